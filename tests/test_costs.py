"""Promises [19] and [20]: costs, and machines that are late."""

import random
import unittest
from fractions import Fraction

from ringsums.calendars import Calendar
from ringsums.costs import ends, hops, lean, pace, rooms, sent
from ringsums.deciding import bound_of, period_of, right
from ringsums.plans import Plan
from ringsums.plays import play
from ringsums.tables import faults_at
from samples import FAIR, HALF, ONCE, TEXTS, examples_outcome, sample_rows

# As they stand in section 11 of the document.
EXAMPLES = r'''
    >>> from ringsums.costs import ends, hops, lean, pace, rooms
    >>> pace(once), pace(half), hops(half, 4), ends(once, [0, 0, 5]), rooms(once, [0, 0, 5]), str(lean(half))
    ((2, 1), (1, 1), 8, (9, 9, 9), 2, '- from 1 of 2: 1')
'''

EVERY = "- from 1 of 1: 0"
ALL_TEXTS = [*TEXTS.values(), FAIR]
LATE = [[0], [7], [0, 0], [3, 0], [0, 0, 5], [4, 4, 4], [9, 1, 5], [0, 8, 0, 2], [1, 0, 0, 0, 6], [0, 30, 0, 0, 1, 2]]


def rounds_of(plan, n):
    """Return the lanes of each round for n machines."""
    return [block.lanes for block in plan.blocks for _ in range(max(0, block.rounds(n)))]


def straight_ends(plan, late):
    """Return the ends ahead of each round and in the end, machine by machine, as the document tells it."""
    n = len(late)
    found = [tuple(late)]
    for lanes in rounds_of(plan, n):
        before = found[-1]
        after = []
        for i in range(n):
            givers = [j for lane in lanes for j in range(n) if (j + (1 if lane.way == "up" else -1)) % n == i]
            after.append(1 + max([before[i]] + [before[j] for j in givers]))
        found.append(tuple(after))
    return found


def straight_rooms(plan, late):
    """Return the greatest number of pieces that wait for one machine, by counting them at each time."""
    n = len(late)
    found = straight_ends(plan, late)
    waits = [[] for _ in range(n)]
    for r, lanes in enumerate(rounds_of(plan, n)):
        for lane in lanes:
            for j in range(n):
                i = (j + (1 if lane.way == "up" else -1)) % n
                waits[i].append((found[r][j] + 1, found[r + 1][i]))
    times = range(min(late), max(found[-1]) + 2)
    return max(sum(low <= time < high for low, high in waiting) for waiting in waits for time in times)


class TestExamples(unittest.TestCase):
    def test_section_11(self):
        self.assertEqual(examples_outcome(EXAMPLES, "section 11"), (0, 2))


class TestPace(unittest.TestCase):
    def test_known(self):
        cases = [
            ("", (0, 1)), (ONCE, (2, 1)), (HALF, (1, 1)), (FAIR, (3, 2)), ("rounds 7\nup - 0 add", (0, 1)),
            ("rounds -3\nup - 0 add", (0, 1)),
            # Of rounds below 0 there are none: they take nothing away.
            ("rounds -n\nup - 0 add", (0, 1)), ("rounds n\nup - 0 add\nrounds -2n\nup - 0 add", (1, 1)),
            ("rounds (-n+400)/2\nup - 0 add\nrounds (n-400)/2\nup - 0 add", (1, 2)),
            # In lowest terms, by parts that have to be joined.
            ("rounds (2n)/4\nup - 0 add", (1, 2)), ("rounds (6n+5)/4\nup - 0 add", (3, 2)),
            ("rounds (n)/2\nup - 0 add\nrounds (n)/3\nup - 0 add", (5, 6)),
            ("rounds (n)/6\nup - 0 add\nrounds (n)/3\nup - 0 add", (1, 2)),
            ("rounds (n)/4\nup - 0 add\nrounds (3n)/4\nup - 0 add", (1, 1)),
            ("rounds (0)/5\nup - 0 add\nrounds (0)/7\nup - 0 add", (0, 1)),
            # Lanes do not count.
            ("rounds n\nup - 0 add\nup - 1 add\ndown + 0 add", (1, 1)),
            ("rounds (999999999n)/999999998\nup - 0 add", (999999999, 999999998)),
        ]
        for text, expected in cases:
            with self.subTest(text):
                self.assertEqual(pace(Plan.read(text)), expected)
                self.assertEqual(pace(plan=Plan.read(text)), expected)

    def test_as_for_great_numbers(self):
        for text in [*ALL_TEXTS, "rounds (7n-3)/5\nup + 0 add\nrounds -4n+1\nup + 0 add\nrounds (2n)/3\nup + 0 put"]:
            plan = Plan.read(text)
            n = 10 ** 9
            upper, lower = pace(plan)
            self.assertGreater(lower, 0)
            self.assertLess(abs(Fraction(plan.all_rounds(n), n) - Fraction(upper, lower)), Fraction(100, n))
            self.assertEqual(Fraction(upper, lower).denominator, lower)


class TestSent(unittest.TestCase):
    def test_as_a_play_tells(self):
        for text in ALL_TEXTS:
            plan = Plan.read(text)
            for n in (1, 2, 3, 5, 6):
                for length in (0, 1, 2, 4, 6, 9):
                    with self.subTest(text, n=n, length=length):
                        self.assertEqual(sent(plan, n, length), play(plan, sample_rows(n, length)).sent)

    def test_fewer_numbers_than_machines(self):
        # The one number is in the last piece, which goes round from the last machine, and then from the one below.
        self.assertEqual(sent(Plan.read(ONCE), 3, 1), (1, 1, 2))
        self.assertEqual(sent(plan=Plan.read(ONCE), n=4, length=1), (2, 1, 1, 2))
        self.assertEqual(sent(Plan.read("rounds 1\nup + 0 add"), 4, 1), (0, 0, 0, 1))
        self.assertEqual(sent(Plan.read("rounds 1\nup + 1 add"), 4, 2), (1, 0, 1, 0))

    def test_nothing(self):
        self.assertEqual(sent(Plan.read(ONCE), 3, 0), (0, 0, 0))
        self.assertEqual(sent(Plan(), 2, 5), (0, 0))

    def test_at_the_limits(self):
        plan = Plan.read("rounds 200\nup - 0 add\ndown + 3 add\nup + 1 add")
        self.assertEqual(sent(plan, 40, 60), play(plan, [[0] * 60] * 40).sent)
        self.assertEqual(sum(sent(plan, 40, 60)), 200 * 3 * 60)


class TestHops(unittest.TestCase):
    def test_known(self):
        cases = [
            (HALF, 4, 8), (HALF, 5, 8), (HALF, 1, 0), (ONCE, 1, 0), (ONCE, 5, 8), (FAIR, 4, 7), ("", 9, 0),
            ("rounds 3\nup - 0 add\nup - 0 put\ndown + 0 add", 2, 9),
            # Blocks of no rounds, and below none.
            ("rounds 0\nup - 0 add\nrounds n-5\nup - 0 add\nup + 0 add", 4, 0),
            ("rounds n-5\nup - 0 add\nup + 0 add\nrounds 2\nup - 0 put", 4, 2),
            ("rounds n-5\nup - 0 add\nup + 0 add\nrounds 2\nup - 0 put", 7, 6),
            ("rounds (n-1)/2\nup - 0 add", 2, 0), ("rounds (-n+3)/2\nup - 0 add", 9, 0),
        ]
        for text, n, count in cases:
            with self.subTest(text, n=n):
                self.assertEqual(hops(Plan.read(text), n), count)
                self.assertEqual(hops(n=n, plan=Plan.read(text)), count)

    def test_as_one_number_for_each_piece(self):
        # If each piece is one number, all pieces together are handed on as often as numbers are.
        for text in ALL_TEXTS:
            plan = Plan.read(text)
            for n in (1, 2, 3, 6):
                self.assertEqual(hops(plan, n) * n, sum(play(plan, sample_rows(n, n)).sent))

    def test_no_right_plan_has_fewer(self):
        for text in ALL_TEXTS:
            plan = Plan.read(text)
            for n in range(1, 20):
                if faults_at(plan, n) == ():
                    self.assertGreaterEqual(hops(plan, n), 2 * n - 2)


class TestLean(unittest.TestCase):
    def test_known(self):
        cases = [
            (ONCE, EVERY), (HALF, "- from 1 of 2: 1"), (FAIR, "- from 1 of 2: 1"),
            # Back the other way, and with one sending less to be put for an even number of machines.
            (ONCE.replace("up - 1", "down + 1"), EVERY),
            (FAIR.replace("rounds (n)/2\nup - 0 put\ndown", "rounds (n)/2\nup - 0 put\nrounds (n-1)/2\ndown"), EVERY),
            # Right for all, but by one hop more, or for one number of machines only.
            (ONCE.replace("n-1\nup - 1", "n\nup - 1"), "-"),
            (f"{ONCE}\nrounds -n+3\nup - 1 put", "- from 3 of 1: 0"),
            (f"{ONCE}\nrounds n-3\nup - 1 put", "1 2 3"),
            ("rounds 3\nup - 0 add\nrounds 3\nup - 1 put", "4"),
            # Wrong by just so many hops.
            (ONCE.replace("- 1 put", "- 1 add"), "1"),
            (ONCE.replace("up - 1", "down + 0"), "1"), ("rounds 2n-2\nup - 0 add", "1"), ("", "1"),
            ("rounds n-1\nup - 0 add\ndown + 0 add", "1"),
        ]
        for text, numbers in cases:
            with self.subTest(text):
                self.assertEqual(str(lean(Plan.read(text))), numbers)
                self.assertEqual(str(lean(plan=Plan.read(text))), numbers)

    def test_up_to_beyond_the_bound(self):
        more = [f"{ONCE}\nrounds (-n+9)/2\nup - 1 put", f"{ONCE}\nrounds (n-9)/2\nup - 1 put",
                "rounds n+3\nup - 0 add\nrounds n-5\nup - 1 put", f"{HALF}\nrounds -n+4\nup - 0 put"]
        for text in [*ALL_TEXTS, *more]:
            plan = Plan.read(text)
            found = lean(plan)
            self.assertIsInstance(found, Calendar)
            self.assertLessEqual(found, right(plan))
            with self.subTest(text):
                for n in range(1, bound_of(plan) + 2 * period_of(plan)):
                    self.assertIs(n in found, faults_at(plan, n) == () and hops(plan, n) == 2 * n - 2)

    def test_at_the_limits(self):
        plan = Plan.read("rounds 4n\nup - (n)/2 add\ndown + 0 add\nup - 1 add\ndown + 2 put")
        self.assertEqual(bound_of(plan), 400)
        self.assertEqual(str(lean(plan)), "-")
        plan = Plan.read(FAIR.replace("rounds (n)/2\nup - 0 put\ndown + 0", "rounds 4n+4\nup - 0 put\ndown + 0"))
        self.assertEqual((str(right(plan)), str(lean(plan))), (EVERY, "-"))


class TestEnds(unittest.TestCase):
    def test_nobody_late(self):
        for text in ALL_TEXTS:
            plan = Plan.read(text)
            for n in (1, 2, 3, 6):
                self.assertEqual(ends(plan, [0] * n), (plan.all_rounds(n),) * n)
                self.assertEqual(rooms(plan, [0] * n), 0)

    def test_all_late_by_as_much(self):
        for text in ALL_TEXTS:
            plan = Plan.read(text)
            for n in (1, 2, 5):
                self.assertEqual(ends(plan, (17,) * n), (17 + plan.all_rounds(n),) * n)
                self.assertEqual(rooms(plan, (17,) * n), 0)

    def test_one_late(self):
        up = Plan.read("rounds 2\nup - 0 add")
        self.assertEqual(ends(up, [9, 0, 0, 0]), (11, 11, 11, 2))
        self.assertEqual(ends(up, [0, 0, 9, 0]), (11, 2, 11, 11))
        down = Plan.read("rounds 2\ndown - 0 put")
        self.assertEqual(ends(down, [9, 0, 0, 0]), (11, 2, 11, 11))
        both = Plan.read("rounds 1\nup - 0 add\ndown - 0 put")
        self.assertEqual(ends(both, [9, 0, 0, 0, 0]), (10, 10, 1, 1, 10))
        one_each = Plan.read("rounds 1\nup - 0 add\nrounds 1\ndown + 0 add")
        self.assertEqual(ends(one_each, [9, 0, 0, 0, 0]), (11, 11, 2, 2, 11))

    def test_one_machine_alone(self):
        self.assertEqual((ends(Plan.read(ONCE), [3]), rooms(Plan.read(ONCE), [3])), ((3,), 0))
        plan = Plan.read("rounds 5\nup - 0 add\ndown + 0 add")
        self.assertEqual((ends(plan, [3]), rooms(plan, [3])), ((8,), 0))

    def test_no_rounds(self):
        for text in ("", "rounds -3\nup + 0 add", "rounds 0\nup - 0 add"):
            plan = Plan.read(text)
            self.assertEqual((ends(plan, [5, 0, 2]), rooms(plan, [5, 0, 2])), ((5, 0, 2), 0))

    def test_as_told_straight(self):
        for text in ALL_TEXTS:
            plan = Plan.read(text)
            for late in LATE:
                with self.subTest(text, late=late):
                    self.assertEqual(ends(plan, late), straight_ends(plan, late)[-1])
                    self.assertEqual(rooms(plan, late), straight_rooms(plan, late))

    def test_some_as_told_straight(self):
        # Late ones far off come to be felt when the wait for near ones is over.
        choose = random.Random(5)
        texts = [*ALL_TEXTS, "rounds 9\nup - 0 add\ndown + 0 add",
                 "rounds 4\nup - 0 add\nrounds 5\ndown + 0 put\nup + 1 add"]
        for _ in range(150):
            plan = Plan.read(choose.choice(texts))
            late = choose.choices((0, 0, 0, 1, 2, 3, 7, 20), k=choose.randrange(3, 9))
            with self.subTest(str(plan), late=late):
                self.assertEqual(ends(plan, late), straight_ends(plan, late)[-1])
                self.assertEqual(rooms(plan, late), straight_rooms(plan, late))

    def test_sequences(self):
        late = [0, 0, 5]
        plan = Plan.read(ONCE)
        self.assertEqual(ends(plan=plan, late=tuple(late)), ends(plan, late))
        self.assertEqual(rooms(plan=plan, late=tuple(late)), rooms(plan, late))
        self.assertEqual(late, [0, 0, 5])
        self.assertIsInstance(ends(Plan(), late), tuple)

    def test_great_times(self):
        self.assertEqual(ends(Plan.read(ONCE), [0, 999999999]), (10 ** 9 + 1,) * 2)


class TestRooms(unittest.TestCase):
    def test_from_one_side(self):
        # What machine 4 hands on waits for machine 5, piece after piece.
        plan = Plan.read("rounds 4\nup - 0 add")
        self.assertEqual([rooms(plan, [0, 0, 0, 0, 0, late]) for late in (0, 1, 2, 3, 4, 9)], [0, 1, 2, 3, 4, 4])

    def test_from_both_sides(self):
        plan = Plan.read("rounds 1\nup - 0 add\ndown + 0 add")
        self.assertEqual(rooms(plan, [0, 0, 4]), 2)
        # One comes when the other is done with.
        self.assertEqual((rooms(plan, [0, 9, 9, 0, 0]), straight_rooms(plan, [0, 9, 9, 0, 0])), (1, 1))

    def test_several_lanes_of_one_way(self):
        plan = Plan.read("rounds 2\nup - 0 add\nup - 1 add\nup + 0 put")
        self.assertEqual(rooms(plan, [0, 0, 0, 9]), 6)

    def test_more_wait_when_others_are_over(self):
        # Machine 1 is late by a little, and then held up by machine 2, while machine 0 goes on handing to it.
        plan = Plan.read("rounds 1\nup - 0 add\nrounds 1\ndown + 0 add\nrounds 4\nup - 0 add")
        late = [0, 1, 20, 0, 0, 0, 0, 0, 0]
        self.assertEqual((rooms(plan, late), straight_rooms(plan, late)), (4, 4))

    def test_two_machines_hand_to_one_another_both_ways(self):
        plan = Plan.read("rounds 1\nup - 0 add\ndown + 0 add")
        self.assertEqual((rooms(plan, [0, 1]), rooms(plan, [0, 0])), (2, 0))

    def test_what_comes_at_the_end_of_the_round_does_not_wait(self):
        # A piece comes at 6, when machine 0 ends its round, too.
        self.assertEqual(rooms(Plan.read("rounds 1\nup - 0 add"), [0, 5]), 1)
        self.assertEqual(rooms(Plan.read("rounds 1\nup - 0 add"), [5, 5]), 0)

    def test_at_the_limits(self):
        plan = Plan.read("rounds 200\nup - 0 add\ndown + 3 add\nup + 1 add")
        late = [(machine * 37) % 101 for machine in range(40)]
        self.assertEqual(ends(plan, late), straight_ends(plan, late)[-1])
        self.assertGreater(rooms(plan, late), 0)


if __name__ == "__main__":
    unittest.main()
