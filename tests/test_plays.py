"""Promises [8] to [11]: playing, slips, and what is refused."""

import unittest

from ringsums.errors import InvalidRows, InvalidSlip, Refused
from ringsums.forms import Form
from ringsums.plans import Plan
from ringsums.plays import Played, Slip, cuts, play
from samples import (
    HALF, MIXED, ONCE, TEXTS, ErrorChecks, any_values, examples_outcome, nested, sample_rows, sendings, straight_play,
)

# As they stand in section 6 of the document.
EXAMPLES = r'''
    >>> from ringsums.plays import Slip, cuts, play
    >>> played = play(once, [[1, 2, 3], [10, 20, 30], [100, 200, 300]])
    >>> played.rows[0], played.is_right, played.sent, cuts(7, 3)
    ((111, 222, 333), True, (4, 4, 4), ((0, 2), (2, 4), (4, 7)))

    >>> play(once, [[1, 2], [10, 20]], [Slip("lost", 0, 0, 0)]).rows, play(half, [[1, 2], [10, 20]]).rows
    (((10, 22), (10, 22)), ((21, 24), (21, 24)))
'''


class TestExamples(unittest.TestCase):
    def test_section_6(self):
        self.assertEqual(examples_outcome(EXAMPLES, "section 6"), (0, 4))


class TestCuts(unittest.TestCase):
    def test_even_and_uneven(self):
        self.assertEqual(cuts(6, 3), ((0, 2), (2, 4), (4, 6)))
        self.assertEqual(cuts(7, 3), ((0, 2), (2, 4), (4, 7)))
        self.assertEqual(cuts(length=8, n=3), ((0, 2), (2, 5), (5, 8)))

    def test_one_machine(self):
        self.assertEqual((cuts(5, 1), cuts(0, 1)), (((0, 5),), ((0, 0),)))

    def test_more_machines_than_numbers(self):
        self.assertEqual(cuts(2, 4), ((0, 0), (0, 1), (1, 1), (1, 2)))
        self.assertEqual(cuts(0, 3), ((0, 0), (0, 0), (0, 0)))

    def test_tuples(self):
        self.assertIsInstance(cuts(3, 2), tuple)
        self.assertIsInstance(cuts(3, 2)[0], tuple)


class TestPlay(unittest.TestCase):
    def test_as_told_straight(self):
        for name, text in TEXTS.items():
            plan = Plan.read(text)
            for n in (1, 2, 3, 4, 5):
                for length in (0, 1, 3, 5, 8):
                    with self.subTest(name, n=n, length=length):
                        rows = sample_rows(n, length)
                        self.assertEqual(play(plan, rows).rows, straight_play(plan, rows))

    def test_one_machine_doubles(self):
        self.assertEqual(play(Plan.read("rounds 1\nup + 0 add"), [[1, -2, 3]]).rows, ((2, -4, 6),))
        self.assertEqual(play(Plan.read("rounds 3\ndown - 5 add"), [[1, -2]]).rows, ((8, -16),))
        self.assertEqual(play(Plan.read("rounds 3\ndown - 5 put"), [[1, -2]]).rows, ((1, -2),))
        self.assertEqual(play(Plan.read("rounds 1\nup + 0 add\ndown + 0 add"), [[1]]).rows, ((3,),))

    def test_ways(self):
        rows = [[1, 10, 100], [2, 20, 200], [3, 30, 300]]
        up = play(Plan.read("rounds 1\nup + 0 put"), rows).rows
        self.assertEqual(up, ((1, 10, 300), (1, 20, 200), (3, 20, 300)))
        down = play(Plan.read("rounds 1\ndown + 0 put"), rows).rows
        self.assertEqual(down, ((1, 20, 100), (2, 20, 300), (1, 30, 300)))

    def test_signs_and_shifts(self):
        rows = [[1, 10, 100], [2, 20, 200], [3, 30, 300]]
        plus = play(Plan.read("rounds 2\nup + 0 put"), rows).rows
        self.assertEqual(plus, straight_play(Plan.read("rounds 1\nup + 0 put\nrounds 1\nup + 1 put"), rows))
        minus = play(Plan.read("rounds 2\nup - 0 put"), rows).rows
        self.assertEqual(minus, straight_play(Plan.read("rounds 1\nup + 0 put\nrounds 1\nup + n-1 put"), rows))
        self.assertEqual(plus, ((3, 10, 300), (1, 10, 200), (3, 20, 200)))
        self.assertEqual(minus, ((1, 20, 300), (1, 20, 300), (1, 20, 300)))

    def test_all_hand_on_what_they_have_at_the_beginning(self):
        plan = Plan.read("rounds 1\nup + 0 add\ndown + 1 add")
        rows = [[1, 10], [2, 20]]
        self.assertEqual(play(plan, rows).rows, ((3, 30), (3, 30)))
        chain = Plan.read("rounds 1\nup + 0 put\nup + n-1 add")
        self.assertEqual(play(chain, [[1, 10, 100], [2, 20, 200], [3, 30, 300]]).rows,
                         ((1, 40, 300), (1, 20, 300), (5, 20, 300)))

    def test_the_order_of_the_lanes(self):
        rows = [[1, 0], [0, 10]]
        put_first = play(Plan.read("rounds 1\nup + 0 put\nup + 0 add"), rows).rows
        add_first = play(Plan.read("rounds 1\nup + 0 add\nup + 0 put"), rows).rows
        self.assertEqual(put_first, ((1, 20), (2, 10)))
        self.assertEqual(add_first, ((1, 10), (1, 10)))

    def test_rows_of_no_numbers(self):
        played = play(Plan.read(ONCE), [[], [], ()])
        self.assertEqual((played.rows, played.sums, played.is_right, played.sent), (((), (), ()), (), True, (0, 0, 0)))

    def test_sums_and_is_right(self):
        for name in ("once", "half", "mixed", "nothing"):
            for n in (1, 2, 3, 4):
                rows = sample_rows(n, 5)
                played = play(Plan.read(TEXTS[name]), rows)
                sums = tuple(sum(column) for column in zip(*rows))
                self.assertEqual(played.sums, sums)
                self.assertIs(played.is_right, all(row == sums for row in played.rows))
        self.assertIs(play(Plan(), [[4, 5]]).is_right, True)
        self.assertIs(play(Plan(), [[4, 5], [0, 0]]).is_right, False)
        self.assertIs(play(Plan(), [[0, 0], [0, 0]]).is_right, True)

    def test_right_for_the_documents_plans(self):
        for n in range(1, 9):
            rows = sample_rows(n, 2 * n + 1)
            self.assertIs(play(Plan.read(ONCE), rows).is_right, True)
            self.assertIs(play(Plan.read(HALF), rows).is_right, n % 2 == 1)

    def test_sent(self):
        rows = sample_rows(3, 7)
        self.assertEqual(play(Plan.read("rounds 1\nup + 0 add"), rows).sent, (2, 2, 3))
        self.assertEqual(play(Plan.read("rounds 2\nup + 0 add"), rows).sent, (4, 5, 5))
        self.assertEqual(play(Plan.read("rounds 2\nup - 1 add"), rows).sent, (4, 5, 5))
        self.assertEqual(play(Plan.read("rounds 1\nup + 0 add\ndown - 2 put"), rows).sent, (5, 4, 5))
        self.assertEqual(play(Plan(), rows).sent, (0, 0, 0))
        self.assertEqual(play(Plan.read(ONCE), sample_rows(1, 4)).sent, (0,))

    def test_tuples(self):
        played = play(Plan.read(ONCE), [[1, 2], [3, 4]])
        self.assertIsInstance(played, Played)
        for value in (played.rows, played.rows[0], played.rows[1], played.sums, played.sent):
            self.assertIsInstance(value, tuple)

    def test_at_the_limits(self):
        plan = Plan.read("rounds 200\nup - 0 add\ndown + 3 put\nup + 1 add")
        rows = sample_rows(40, 60)
        self.assertEqual(play(plan, rows).rows, straight_play(plan, rows))


class TestSlips(unittest.TestCase, ErrorChecks):
    def test_attributes(self):
        slip = Slip("lost", 1, 2, 3)
        self.assertEqual((slip.kind, slip.turn, slip.machine, slip.lane), ("lost", 1, 2, 3))
        self.assertEqual(Slip(lane=3, machine=2, turn=1, kind="lost"), slip)
        self.assertEqual(Slip("again", 0, 0, 0).kind, "again")

    def test_wrong_arguments(self):
        for value in any_values() + ["Lost", "again ", "twice"]:
            if value != "lost":
                self.check_word(InvalidSlip, "kind", Slip, value, 0, 0, 0)
            if not isinstance(value, int) or isinstance(value, bool) or value < 0:
                self.check_word(InvalidSlip, "turn", Slip, "lost", value, 0, 0)
                self.check_word(InvalidSlip, "machine", Slip, "lost", 0, value, 0)
                self.check_word(InvalidSlip, "lane", Slip, "lost", 0, 0, value)

    def test_the_first_wrong_argument_is_named(self):
        self.check_word(InvalidSlip, "kind", Slip, 0, -1, -1, -1)
        self.check_word(InvalidSlip, "turn", Slip, "again", True, False, -1)
        self.check_word(InvalidSlip, "machine", Slip, "again", 0, False, True)
        self.check_word(InvalidSlip, "lane", Slip, "again", 0, 0, None)
        self.check_word(InvalidSlip, "turn", Slip, lane=-1, machine=-1, turn=-1, kind="lost")

    def test_equal_if_all_are(self):
        slips = [Slip(kind, *place) for kind in ("lost", "again")
                 for place in ((0, 0, 0), (1, 0, 0), (0, 1, 0), (0, 0, 1))]
        for i, one in enumerate(slips):
            for k, other in enumerate(slips):
                self.assertEqual(one == other, i == k)
                self.assertEqual(one != other, i != k)
        self.assertEqual(Slip("again", 4, 5, 6), Slip("again", 4, 5, 6))
        for value in any_values() + [("lost", 1, 2, 3)]:
            self.assertFalse(Slip("lost", 1, 2, 3) == value)

    def test_lost_and_again_with_both_deeds(self):
        rows = [[1, 2], [10, 20]]
        add, put = Plan.read("rounds 1\nup + 0 add"), Plan.read("rounds 1\nup + 0 put")
        self.assertEqual(play(add, rows).rows, ((1, 22), (11, 20)))
        self.assertEqual(play(add, rows, [Slip("lost", 0, 0, 0)]).rows, ((1, 22), (10, 20)))
        self.assertEqual(play(add, rows, [Slip("again", 0, 0, 0)]).rows, ((1, 22), (12, 20)))
        self.assertEqual(play(add, rows, (Slip("again", 0, 1, 0),)).rows, ((1, 42), (11, 20)))
        self.assertEqual(play(put, rows).rows, ((1, 20), (1, 20)))
        self.assertEqual(play(put, rows, [Slip("lost", 0, 0, 0)]).rows, ((1, 20), (10, 20)))
        self.assertEqual(play(put, rows, [Slip("again", 0, 0, 0)]).rows, ((1, 20), (1, 20)))

    def test_one_machine(self):
        plan = Plan.read("rounds 2\nup + 0 add")
        rows = [[5]]
        self.assertEqual(play(plan, rows, [Slip("again", 0, 0, 0)]).rows, ((30,),))
        self.assertEqual(play(plan, rows, [Slip("lost", 1, 0, 0)]).rows, ((10,),))

    def test_each_slip_as_told_straight(self):
        for name, text in TEXTS.items():
            plan = Plan.read(text)
            for n in (1, 2, 3):
                rows = sample_rows(n, 4)
                sent = play(plan, rows).sent
                for sending in sendings(plan, n):
                    for kind in ("lost", "again"):
                        with self.subTest(name, n=n, kind=kind, sending=sending):
                            slips = [Slip(kind, *sending)]
                            played = play(plan, rows, slips)
                            self.assertEqual(played.rows, straight_play(plan, rows, slips))
                            self.assertEqual(played.sent, sent)
                            self.assertEqual(played.sums, tuple(sum(column) for column in zip(*rows)))

    def test_many_slips_in_any_order(self):
        plan = Plan.read(MIXED)
        rows = sample_rows(4, 6)
        places = sendings(plan, 4)
        for step in (2, 3, 5):
            slips = [Slip(("lost", "again")[at % 2], *place) for at, place in enumerate(places[::step])]
            for given in (slips, slips[::-1], tuple(slips)):
                self.assertEqual(play(plan, rows, given).rows, straight_play(plan, rows, slips))

    def test_is_right_with_a_slip(self):
        plan = Plan.read(ONCE)
        rows = [[1, 2], [10, 20]]
        self.assertIs(play(plan, rows, [Slip("lost", 0, 0, 0)]).is_right, False)
        self.assertIs(play(plan, rows, [Slip("again", 1, 0, 0)]).is_right, True)


class TestRefused(unittest.TestCase, ErrorChecks):
    def test_no_rows(self):
        plan = Plan.read(ONCE)
        for value in any_values():
            good = value in ([[]], ((),))
            if not good:
                at = 1 if value == [[1, 2], [3]] else 0
                self.check_at(InvalidRows, at, play, plan, value)

    def test_the_first_wrong_row(self):
        plan = Plan.read(ONCE)
        for value in any_values() + [[1], [1, 2, 3], (1, 2, 3), [1, True], [False, 1], [1, None], [1, "2"], "12",
                                     [1, [2]], {1: 2, 3: 4}, {1, 2}, nested(7)]:
            self.check_at(InvalidRows, 1, play, plan, [[1, 2], value])
            self.check_at(InvalidRows, 2, play, plan, ((1, 2), [3, 4], value, value, [5, 6]))
        for value in ([1, True], None, 7, "ab", [None], [[1]], Form()):
            self.check_at(InvalidRows, 0, play, plan, [value, [1, 2]])
            self.check_at(InvalidRows, 0, play, plan, [value, value])

    def test_lists_and_tuples_are_rows(self):
        plan = Plan.read(ONCE)
        for rows in ([[1, 2], [3, 4]], ((1, 2), (3, 4)), [(1, 2), [3, 4]], ([1, 2], (3, 4))):
            self.assertEqual(play(plan, rows).rows, ((4, 6), (4, 6)))

    def test_the_last_sending_of_all(self):
        for text, last in ((ONCE, (3, 2, 0)), (HALF, (1, 2, 1)), (MIXED, (3, 2, 0))):
            plan = Plan.read(text)
            rows = sample_rows(3, 3)
            slips = [Slip("lost", *last)]
            self.assertEqual(sendings(plan, 3)[-1], last)
            self.assertEqual(play(plan, rows, slips).rows, straight_play(plan, rows, slips))

    def test_a_sending_that_there_is_not(self):
        plan = Plan.read(ONCE)
        rows = [[1], [2], [3]]
        good = Slip("again", 0, 0, 0)
        for place in ((4, 0, 0), (0, 3, 0), (0, 0, 1), (10 ** 9, 10 ** 9, 10 ** 9)):
            for kind in ("lost", "again"):
                bad = Slip(kind, *place)
                self.check_at(Refused, 0, play, plan, rows, [bad])
                self.check_at(Refused, 1, play, plan, rows, [good, bad])
                self.check_at(Refused, 1, play, plan, rows, (good, bad, bad, good))

    def test_lanes_of_each_block(self):
        plan = Plan.read("rounds 1\nup + 0 add\nup + 0 add\nrounds 1\nup + 0 add")
        rows = [[1], [2]]
        self.assertEqual(len(play(plan, rows, [Slip("lost", 0, 1, 1)]).rows), 2)
        self.check_at(Refused, 0, play, plan, rows, [Slip("lost", 1, 1, 1)])
        self.check_at(Refused, 0, play, plan, rows, [Slip("lost", 0, 1, 2)])

    def test_no_rounds_no_sendings(self):
        for plan in (Plan(), Plan.read("rounds n-3\nup + 0 add")):
            self.check_at(Refused, 0, play, plan, [[1], [2]], [Slip("lost", 0, 0, 0)])

    def test_one_sending_told_twice(self):
        plan = Plan.read(ONCE)
        rows = [[1], [2], [3]]
        lost, again, other = Slip("lost", 1, 1, 0), Slip("again", 1, 1, 0), Slip("lost", 1, 2, 0)
        self.check_at(Refused, 1, play, plan, rows, [lost, lost])
        self.check_at(Refused, 1, play, plan, rows, [lost, again])
        self.check_at(Refused, 2, play, plan, rows, [again, other, lost, lost])
        self.check_at(Refused, 1, play, plan, rows, [lost, Slip("lost", 9, 0, 0), lost])

    def test_rows_ahead_of_slips(self):
        plan = Plan.read(ONCE)
        self.check_at(InvalidRows, 0, play, plan, [], [Slip("lost", 99, 0, 0)])
        self.check_at(InvalidRows, 1, play, plan, [[1], [True]], [Slip("lost", 99, 0, 0)])

    def test_what_is_passed_stays_as_it_was(self):
        plan = Plan.read(ONCE)
        rows = [[1, 2], [10, 20]]
        slips = [Slip("lost", 0, 0, 0)]
        played = play(plan, rows, slips)
        self.assertEqual((rows, slips), ([[1, 2], [10, 20]], [Slip("lost", 0, 0, 0)]))
        self.assertEqual(plan, Plan.read(ONCE))
        rows[0][0] = 99
        rows.append([])
        slips.clear()
        self.assertEqual((played.rows, played.sums), (((10, 22), (10, 22)), (11, 22)))


if __name__ == "__main__":
    unittest.main()
