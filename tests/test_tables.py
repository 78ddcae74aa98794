"""Promise [13]: tables and faults."""

import unittest

from ringsums.errors import InvalidFault
from ringsums.plans import Plan
from ringsums.plays import cuts, play
from ringsums.tables import faults_at, held, spots
from samples import FAIR, HALF, MIXED, ONCE, TEXTS, any_values, examples_outcome, straight_faults, straight_tables

# As they stand in section 7 of the document.
EXAMPLES = r'''
    >>> from ringsums.tables import faults_at, held, spots
    >>> held(once, 2), held(half, 2), faults_at(half, 3), spots(half, 2, "doubled")
    (((1, 1), (1, 1)), ((1, 2), (2, 1)), (), ((0, 1), (1, 0)))
'''

# What one round does with three machines, told by hand.
ONE_ROUND = {
    "up + 0 add": ((1, 0, 0), (1, 0, 0), (1, 0, 1)),
    "up - 0 add": ((1, 0, 0), (1, 0, 0), (1, 0, 1)),
    "up + 0 put": ((1, 0, 0), (1, 0, 0), (0, 0, 1)),
    "down + 0 add": ((1, 0, 0), (1, 1, 0), (1, 0, 0)),
    "down - 0 put": ((1, 0, 0), (0, 1, 0), (1, 0, 0)),
    "up + 1 add": ((1, 0, 1), (1, 0, 0), (1, 0, 0)),
    "up - -1 add": ((1, 0, 0), (1, 0, 1), (1, 0, 0)),
    "down + n+1 put": ((1, 0, 0), (1, 0, 0), (0, 1, 0)),
    "up + 0 add\nup + 0 add": ((1, 0, 0), (1, 0, 0), (1, 0, 2)),
    "up + 0 put\nup + 0 add": ((1, 0, 0), (1, 0, 0), (0, 0, 2)),
    "up + 0 add\nup + 0 put": ((1, 0, 0), (1, 0, 0), (0, 0, 1)),
    "up + 0 add\ndown + 1 put": ((1, 0, 0), (1, 0, 0), (0, 1, 0)),
    "up + 0 put\ndown + 1 add": ((1, 0, 0), (1, 0, 0), (0, 1, 1)),
    "up + 0 add\ndown + 0 add": ((1, 0, 0), (1, 1, 0), (1, 0, 1)),
}

# And two rounds: with - the piece goes on upwards, with + it does not.
TWO_ROUNDS = {
    "up - 0 add": ((1, 0, 0), (1, 1, 1), (1, 0, 1)),
    "up + 0 add": ((1, 0, 1), (1, 0, 0), (1, 0, 1)),
    "down + 0 add": ((1, 0, 0), (1, 1, 0), (1, 1, 1)),
    "down - 0 add": ((1, 1, 0), (1, 1, 0), (1, 0, 0)),
    "up - 0 put": ((1, 0, 0), (0, 1, 0), (0, 0, 1)),
}


def all_texts():
    """Return the texts of plans of many kinds."""
    lanes = [
        f"{way} {sign} {shift} {deed}"
        for way in ("up", "down") for sign in "+-" for shift in ("0", "(n)/2", "-n-2") for deed in ("add", "put")
    ]
    pairs = [f"rounds n+1\n{one}\n{other}" for one in lanes[::3] for other in lanes[::2]]
    return [*TEXTS.values(), FAIR, *[f"rounds n-1\n{lane}" for lane in lanes], *pairs]


class TestExamples(unittest.TestCase):
    def test_section_7(self):
        self.assertEqual(examples_outcome(EXAMPLES, "section 7"), (0, 2))


class TestHeld(unittest.TestCase):
    def test_one_round(self):
        for text, table in ONE_ROUND.items():
            with self.subTest(text):
                self.assertEqual(held(Plan.read(f"rounds 1\n{text}"), 3), table)

    def test_two_rounds(self):
        for text, table in TWO_ROUNDS.items():
            with self.subTest(text):
                plan = Plan.read(f"rounds 2\n{text}")
                self.assertEqual(straight_tables(plan, 3)[0], table)
                self.assertEqual(held(plan, 3), table)

    def test_as_told_straight_by_all_machines(self):
        for text in all_texts():
            plan = Plan.read(text)
            for n in (1, 2, 3, 4, 5):
                with self.subTest(text, n=n):
                    self.assertEqual([held(plan, n)] * n, straight_tables(plan, n))

    def test_the_plans_of_the_document(self):
        for n in range(1, 12):
            ones = ((1,) * n,) * n
            self.assertEqual(held(Plan.read(ONCE), n), ones)
            self.assertEqual(held(Plan.read(FAIR), n), ones)
            self.assertEqual(held(Plan.read(HALF), n) == ones, n % 2 == 1)

    def test_without_blocks(self):
        for n in (1, 2, 5):
            own = (1,) + (0,) * (n - 1)
            self.assertEqual(held(Plan(), n), (own,) * n)
            self.assertEqual(held(Plan.read("rounds n-5\nup + 0 add"), n), (own,) * n)

    def test_one_machine_alone(self):
        cases = [
            ("rounds 1\nup + 0 add", 2), ("rounds 5\ndown - 3 add", 32), ("rounds 5\ndown - 3 put", 1),
            ("rounds 1\nup + 0 add\ndown + 0 add", 3), ("rounds 2\nup + 0 put\ndown + 0 add", 4),
            ("rounds 2\nup + 0 add\ndown + 0 put", 1), ("rounds 200\nup + 0 add", 2 ** 200), (ONCE, 1), (HALF, 1),
        ]
        for text, count in cases:
            self.assertEqual(held(Plan.read(text), 1), ((count,),))

    def test_the_numbers_of_a_play(self):
        for text in (ONCE, HALF, MIXED, FAIR, "rounds n\nup + 1 add\ndown - 0 add\nup - (n)/2 put"):
            plan = Plan.read(text)
            for n in (1, 2, 3, 4, 6):
                rows = [[(7 * i + at + 1) * 1000 ** i for at in range(2 * n + 1)] for i in range(n)]
                table, ends = held(plan, n), play(plan, rows).rows
                for i in range(n):
                    for d in range(n):
                        low, high = cuts(2 * n + 1, n)[(i + d) % n]
                        sums = tuple(
                            sum(table[d][e] * rows[(i + e) % n][at] for e in range(n)) for at in range(low, high)
                        )
                        self.assertEqual(ends[i][low:high], sums)

    def test_tuples(self):
        table = held(plan=Plan.read(MIXED), n=3)
        self.assertIsInstance(table, tuple)
        self.assertEqual([line.__class__ for line in table], [tuple] * 3)
        self.assertEqual({count.__class__ for line in table for count in line}, {int})

    def test_at_the_limits(self):
        plan = Plan.read("rounds 200\nup - 0 add\ndown + 3 add\nup + 1 add")
        self.assertEqual([held(plan, 8)] * 8, straight_tables(plan, 8))
        self.assertEqual(straight_faults(held(plan, 40)), faults_at(plan, 40))


class TestFaults(unittest.TestCase):
    def test_each_alone_both_and_none(self):
        cases = [
            (ONCE, 3, ()), (HALF, 3, ()), (HALF, 4, ("doubled",)), ("", 1, ()), ("", 2, ("lacking",)),
            ("rounds 1\nup + 0 add", 1, ("doubled",)), ("rounds 1\nup + 0 add\nup + 0 add", 2, ("doubled", "lacking")),
            ("rounds 1\nup + 0 put", 2, ("lacking",)), ("rounds 2\nup - 0 add", 2, ("doubled",)),
        ]
        for text, n, faults in cases:
            with self.subTest(text, n=n):
                self.assertEqual(faults_at(Plan.read(text), n), faults)
                self.assertEqual(faults_at(plan=Plan.read(text), n=n), faults)

    def test_as_the_table_tells(self):
        for text in all_texts():
            plan = Plan.read(text)
            for n in (1, 2, 3, 4, 5, 8):
                with self.subTest(text, n=n):
                    self.assertEqual(faults_at(plan, n), straight_faults(held(plan, n)))

    def test_many_times_round_the_ring(self):
        # Once nothing changes any more, and again and again.
        lanes = [
            "up - 0 add", "up - 0 put", "up + 0 put", "down - 1 add", "down - 0 put\nup - 1 put",
            "up - 0 put\ndown - 2 put", "up + (n)/2 put\ndown + 0 put", "up - 0 add\ndown + 0 put",
            "up - (n)/2 add\ndown + 0 add\nup - 1 add", "up - 0 add\nup - 0 put", "down - 2 put\nup + -1 add",
        ]
        for rounds in ("n", "2n", "2n+1", "3n-1", "5n+2", "(9n)/2", "11", "7n", "-2n+12"):
            for told in lanes:
                for more in ("", "\nrounds n+2\nup - 1 put\ndown + 1 add"):
                    plan = Plan.read(f"rounds {rounds}\n{told}{more}")
                    for n in (1, 2, 3, 4, 7):
                        with self.subTest(str(plan), n=n):
                            table = held(plan, n)
                            self.assertEqual(faults_at(plan, n), straight_faults(table))
                            wrong = [(d, e) for d in range(n) for e in range(n) if table[d][e] > 1]
                            self.assertEqual(spots(plan, n, "doubled"), tuple(wrong))

    def test_right_if_a_play_is(self):
        for text in all_texts():
            plan = Plan.read(text)
            for n in (1, 2, 3, 4):
                rows = [[10 ** (3 * i)] * n for i in range(n)]
                self.assertIs(faults_at(plan, n) == (), play(plan, rows).is_right)

    def test_more_than_twice_is_doubled_too(self):
        for times in range(1, 9):
            plan = Plan.read("rounds 1\nup - 0 add" + "\nup - 0 add" * times)
            self.assertEqual(faults_at(plan, 2), ("doubled", "lacking"))
            self.assertEqual(spots(plan, 2, "doubled"), ((1, 1),))

    def test_at_the_limits(self):
        lanes = "\nup - 0 add\ndown + 3 put\nup + 1 add"
        plan = Plan.read("\n".join(["rounds 300" + lanes, "rounds n" + lanes, "rounds (4n)/3" + lanes]))
        self.assertEqual(plan.all_rounds(300), 1000)
        self.assertEqual(faults_at(plan, 300), ("doubled", "lacking"))
        self.assertEqual(faults_at(Plan.read(ONCE), 300), ())
        self.assertEqual(faults_at(Plan.read(HALF), 300), ("doubled",))
        self.assertEqual(faults_at(Plan.read(HALF), 299), ())


class TestSpots(unittest.TestCase):
    def test_all_in_their_order(self):
        for text in all_texts():
            plan = Plan.read(text)
            for n in (1, 2, 3, 4, 5):
                table = straight_tables(plan, n)[0]
                pairs = [(d, e) for d in range(n) for e in range(n)]
                with self.subTest(text, n=n):
                    self.assertEqual(spots(plan, n, "doubled"), tuple(p for p in pairs if table[p[0]][p[1]] > 1))
                    self.assertEqual(spots(plan, n, "lacking"), tuple(p for p in pairs if table[p[0]][p[1]] == 0))

    def test_told_by_hand(self):
        plan = Plan.read("rounds 1\nup + 0 add\nup + 0 add")
        self.assertEqual(held(plan, 3), ((1, 0, 0), (1, 0, 0), (1, 0, 2)))
        self.assertEqual(spots(plan, 3, "doubled"), ((2, 2),))
        self.assertEqual(spots(plan, 3, "lacking"), ((0, 1), (0, 2), (1, 1), (1, 2), (2, 1)))

    def test_none(self):
        self.assertEqual(spots(Plan.read(ONCE), 5, "doubled"), ())
        self.assertEqual(spots(Plan.read(ONCE), 5, "lacking"), ())
        self.assertEqual(spots(plan=Plan.read(HALF), n=4, fault="lacking"), ())

    def test_there_are_some_just_if_the_fault_is_there(self):
        for text in all_texts():
            plan = Plan.read(text)
            for n in (1, 2, 3, 6):
                for fault in ("doubled", "lacking"):
                    self.assertEqual(len(spots(plan, n, fault)) > 0, fault in faults_at(plan, n))

    def test_a_fault_that_there_is_not(self):
        for value in any_values() + ["Doubled", "doubled ", "lack", "doubledlacking", ("doubled",), ["lacking"]]:
            with self.assertRaises(InvalidFault):
                spots(Plan.read(ONCE), 2, value)
            with self.assertRaises(InvalidFault):
                spots(None, None, value)

    def test_tuples(self):
        found = spots(Plan.read(HALF), 4, "doubled")
        self.assertIsInstance(found, tuple)
        self.assertEqual({pair.__class__ for pair in found}, {tuple})

    def test_at_the_limits(self):
        plan = Plan.read("rounds 200\nup - 0 add\ndown + 3 put\nup + 1 add")
        table = held(plan, 40)
        for fault, wrong in (("doubled", lambda count: count > 1), ("lacking", lambda count: count == 0)):
            expected = tuple((d, e) for d in range(40) for e in range(40) if wrong(table[d][e]))
            self.assertEqual(spots(plan, 40, fault), expected)


if __name__ == "__main__":
    unittest.main()
