"""Promises [16] and [17]: the bound, and what is decided for all numbers of machines."""

import unittest

from ringsums.calendars import Calendar
from ringsums.deciding import bound_of, happens, is_right, period_of, right, shows
from ringsums.errors import InvalidFault
from ringsums.plans import Plan
from ringsums.tables import faults_at, spots
from samples import FAIR, HALF, MIXED, ONCE, TEXTS, any_values, examples_outcome, straight_faults, straight_tables

# As they stand in sections 1 and 9 of the document.
EXAMPLES_1 = r'''
    >>> from ringsums.deciding import happens, right, shows
    >>> from ringsums.plans import Plan
    >>> once = Plan.read("rounds n-1\nup - 0 add\nrounds n-1\nup - 1 put")
    >>> half = Plan.read("rounds (n)/2\nup - (n)/2 add\ndown + (n+1)/2 add\nrounds (n)/2\nup - 0 put\ndown + 0 put")
    >>> str(right(once)), str(right(half)), str(happens(half, "lacking")), shows(half, "doubled")
    ('- from 1 of 1: 0', '- from 1 of 2: 1', '-', (2, 0, 1))
'''
EXAMPLES_9 = r'''
    >>> from ringsums.deciding import bound_of, is_right, period_of
    >>> is_right(once), is_right(half), period_of(half), bound_of(half), bound_of(once)
    (True, False, 4, 200, 42)
'''

# Period and bound, told by hand: F * (2 D + 3 S + 10).
BOUNDS = [
    ("", 1, 1 * (2 * 5 + 3 * 0 + 10)),
    (ONCE, 1, 1 * (2 * (5 + 1 + 1) + 3 * 6 + 10)),
    (HALF, 4, 4 * (2 * (7 + 1) + 3 * 8 + 10)),
    (FAIR, 4, 4 * (2 * (7 + 2 + 1) + 3 * 8 + 10)),
    # Lanes of both signs in one block, and in two.
    ("rounds n\nup - 0 add\ndown + 0 add", 2, 2 * (2 * 5 + 3 * 6 + 10)),
    ("rounds n\nup - 0 add\nrounds n\ndown + 0 add", 1, 1 * (2 * 5 + 3 * 6 + 10)),
    ("rounds n\nup - 0 add\nup + 0 add", 2, 2 * (2 * 5 + 3 * 6 + 10)),
    ("rounds n\nup - 0 add\ndown - 0 add", 1, 1 * (2 * 5 + 3 * 6 + 10)),
    ("rounds 1\nup + 0 add\nrounds 0\nup - 0 add\nup + 0 add\nup - 0 add", 2, 2 * (2 * (5 + 1) + 3 * 8 + 10)),
    # A by above 1, in the rounds, in a shift, in both.
    ("rounds (n)/2\nup - 0 add", 2, 2 * (2 * 7 + 3 * 2 + 10)),
    ("rounds n\nup - (n)/3 add", 3, 3 * (2 * 9 + 3 * 3 + 10)),
    ("rounds (n)/4\nup - (n)/6 add", 12, 12 * (2 * 27 + 3 * 2 + 10)),
    ("rounds (n)/4\nup - (n)/6 add\nup + (n)/9 add", 72, 72 * (2 * (3 + 72) + 3 * 4 + 10)),
    ("rounds n\nup - (n)/3 add\nrounds n\nup + (n)/5 add", 15, 15 * (2 * 33 + 3 * 6 + 10)),
    ("rounds (0)/7\nup - 0 add", 7, 7 * (2 * 17 + 3 * 2 + 10)),
    # How often the rounds go round.
    ("rounds 4n\nup - 0 add", 1, 1 * (2 * 5 + 3 * 6 + 10)),
    ("rounds (3n)/2\nup - 0 add", 2, 2 * (2 * 7 + 3 * 3 + 10)),
    ("rounds (4n)/2\nup - 0 add\nup - 0 put", 2, 2 * (2 * 7 + 3 * 8 + 10)),
    ("rounds 2n\nup - 0 add\nup - 0 put\nup - 1 add\nrounds n\ndown - 0 add", 1, 1 * (2 * 6 + 3 * 15 + 10)),
    # Blocks of no rounds for great n: their lanes are not counted, but all else of them is.
    ("rounds -n\nup - 0 add\nup - 0 add", 1, 1 * (2 * 5 + 3 * 0 + 10)),
    ("rounds -n+4\nup - 2 add\nrounds n\nup - -3 add", 1, 1 * (2 * (5 + 3 + 4) + 3 * 3 + 10)),
    ("rounds (-n)/2\nup - 0 add\nup + 0 add\nrounds n\nup - 0 add", 4, 4 * (2 * 7 + 3 * 3 + 10)),
    ("rounds -3\nup - 0 add", 1, 1 * (2 * (5 + 3) + 3 * 2 + 10)),
    ("rounds 7\nup + -2 add", 1, 1 * (2 * (5 + 2 + 7) + 3 * 2 + 10)),
    # The greatest size counts, sign aside, once for shifts and once for rounds.
    ("rounds n-4\nup - 2 add\ndown - -3 add\nrounds n+1\ndown - 1 add", 1, 1 * (2 * (5 + 3 + 4) + 3 * 9 + 10)),
    ("rounds (n+9)/2\nup - (n-8)/2 add", 2, 2 * (2 * (7 + 9 + 8) + 3 * 2 + 10)),
    ("rounds 5n\nup - -6n add", 1, 1 * (2 * 5 + 3 * 7 + 10)),
]

# What is told by hand or by a play: where the plan is right, where numbers are doubled, where they are lacking.
KNOWN = [
    (ONCE, "- from 1 of 1: 0", "-", "-"),
    (HALF, "- from 1 of 2: 1", "- from 1 of 2: 0", "-"),
    (FAIR, "- from 1 of 1: 0", "-", "-"),
    ("", "1", "-", "- from 2 of 1: 0"),
    ("rounds -3\nup + 0 add", "1", "-", "- from 2 of 1: 0"),
    # Made for four machines.
    ("rounds 3\nup - 0 add\nrounds 3\nup - 1 put", "3 4", "1 2", "- from 5 of 1: 0"),
    # One round too many, and too few.
    ("rounds n\nup - 0 add\nrounds n-1\nup - 1 put", "- from 2 of 1: 0", "1", "-"),
    ("rounds n-2\nup - 0 add\nrounds n-1\nup - 1 put", "1", "-", "- from 2 of 1: 0"),
    ("rounds n+1\nup - 0 add\nrounds n-1\nup - 1 put", "- from 3 of 1: 0", "1 2", "-"),
    # With an even number of machines the one opposite is left out.
    (HALF.replace("rounds (n)/2\nup - (n)/2", "rounds (n-1)/2\nup - (n)/2"),
     "- from 1 of 2: 1", "-", "- from 1 of 2: 0"),
    ("rounds n\nup + 0 add", "-", "1 2", "- from 3 of 1: 0"),
    ("rounds 1\nup + 0 add\nup + 0 add", "-", "- from 1 of 1: 0", "- from 2 of 1: 0"),
    ("rounds n-1\nup - 0 add", "1", "-", "- from 2 of 1: 0"),
    ("rounds 2n\nup - 0 add", "-", "- from 1 of 1: 0", "-"),
]


def mixtures():
    """Return the texts of plans that are neither simple nor always right."""
    texts = [*TEXTS.values(), FAIR, *[text for text, _, _, _ in KNOWN]]
    texts += [ONCE.replace("- 1 put", f"- {shift} put") for shift in ("0", "2", "n+1", "(n)/2", "-n", "2n-1")]
    texts += [HALF.replace("(n+1)/2", shift) for shift in ("(n)/2", "(n+2)/2", "(-n)/2")]
    texts += [FAIR.replace("(n-1)/2", rounds) for rounds in ("(n)/2", "(n-2)/2", "2", "-n+4")]
    texts += [f"{ONCE}\nrounds {rounds}\nup + 0 {deed}" for rounds in ("-n+4", "1") for deed in ("add", "put")]
    return texts


class TestExamples(unittest.TestCase):
    def test_section_1(self):
        self.assertEqual(examples_outcome(EXAMPLES_1, "section 1"), (0, 5))

    def test_section_9(self):
        self.assertEqual(examples_outcome(EXAMPLES_9, "section 9"), (0, 2))


class TestBounds(unittest.TestCase):
    def test_period_and_bound(self):
        for text, period, bound in BOUNDS:
            with self.subTest(text):
                plan = Plan.read(text)
                self.assertEqual((period_of(plan), bound_of(plan)), (period, bound))

    def test_by_names(self):
        self.assertEqual((period_of(plan=Plan.read(HALF)), bound_of(plan=Plan.read(HALF))), (4, 200))

    def test_plans_as_they_are_played(self):
        forms = ["(999999999n-999999999)/999999998", "(-999999998n+1)/999999997", "(7n)/999999999"]
        text = "\n".join([f"rounds {form}\nup - {form} add\ndown + {form} put\nup + 0 add" for form in forms * 2])
        plan = Plan.read(text)
        common = 999999998 * 999999997 * 999999999
        reach = 3 + 2 * common + 999999999 + 999999999
        sweeps = 2 * (3 * (2 + 1) + 3 * 2)
        self.assertEqual(period_of(plan), 2 * common)
        self.assertEqual(bound_of(plan), 2 * common * (2 * reach + 3 * sweeps + 10))

    def test_the_faults_repeat_themselves_from_the_bound_on(self):
        for text in mixtures():
            plan = Plan.read(text)
            period, bound = period_of(plan), bound_of(plan)
            with self.subTest(text):
                for n in range(bound, bound + period + 2):
                    self.assertEqual(faults_at(plan, n), faults_at(plan, n + period))


class TestRight(unittest.TestCase):
    def test_known_plans(self):
        for text, good, doubled, lacking in KNOWN:
            with self.subTest(text):
                plan = Plan.read(text)
                self.assertEqual(str(right(plan)), good)
                self.assertEqual(str(happens(plan, "doubled")), doubled)
                self.assertEqual(str(happens(plan, "lacking")), lacking)
                self.assertIs(is_right(plan), good == "- from 1 of 1: 0")

    def test_against_the_tables_up_to_beyond_the_bound(self):
        for text in mixtures():
            plan = Plan.read(text)
            good, doubled, lacking = right(plan), happens(plan, "doubled"), happens(plan, "lacking")
            with self.subTest(text):
                for n in range(1, bound_of(plan) + 3 * period_of(plan)):
                    faults = faults_at(plan, n)
                    self.assertIs(n in good, faults == ())
                    self.assertIs(n in doubled, "doubled" in faults)
                    self.assertIs(n in lacking, "lacking" in faults)
                self.assertIs(is_right(plan), good == Calendar((), 1, 1, [0]))

    def test_against_tables_told_straight(self):
        for text in mixtures():
            plan = Plan.read(text)
            good, doubled, lacking = right(plan), happens(plan, "doubled"), happens(plan, "lacking")
            for n in range(1, 7):
                with self.subTest(text, n=n):
                    faults = straight_faults(straight_tables(plan, n)[0])
                    self.assertEqual((n in good, n in doubled, n in lacking),
                                     (faults == (), "doubled" in faults, "lacking" in faults))

    def test_wrong_for_just_one_number(self):
        # A last block spoils what was right, but has rounds for three machines at the most.
        plan = Plan.read(f"{ONCE}\nrounds -n+4\nup + 0 add")
        self.assertEqual((str(right(plan)), str(happens(plan, "doubled"))), ("- from 4 of 1: 0", "1 2 3"))
        plan = Plan.read(f"{ONCE}\nrounds -n+2\nup + 0 add")
        self.assertEqual((str(right(plan)), shows(plan, "doubled")), ("- from 2 of 1: 0", (1, 0, 0)))
        self.assertIs(is_right(plan), False)

    def test_the_faults_together_are_all_that_is_not_right(self):
        for text in mixtures():
            plan = Plan.read(text)
            self.assertEqual(~right(plan), happens(plan, "doubled") | happens(plan, "lacking"))

    def test_calendars(self):
        for text in (ONCE, HALF, MIXED):
            plan = Plan.read(text)
            self.assertIsInstance(right(plan=plan), Calendar)
            self.assertIsInstance(happens(plan=plan, fault="lacking"), Calendar)
            self.assertIs(is_right(plan=plan), text == ONCE)


class TestShows(unittest.TestCase):
    def test_known(self):
        cases = [
            (HALF, (2, 0, 1), None), (ONCE, None, None), (FAIR, None, None), ("", None, (2, 0, 1)),
            ("rounds 3\nup - 0 add\nrounds 3\nup - 1 put", (1, 0, 0), (5, 0, 0)),
            ("rounds 2n\nup - 0 add", (1, 0, 0), None),
            ("rounds 1\nup + 0 add\nup + 0 add", (1, 0, 0), (2, 0, 1)),
        ]
        for text, doubled, lacking in cases:
            with self.subTest(text):
                self.assertEqual(shows(Plan.read(text), "doubled"), doubled)
                self.assertEqual(shows(plan=Plan.read(text), fault="lacking"), lacking)

    def test_the_least_number_and_its_first_spot(self):
        for text in mixtures():
            plan = Plan.read(text)
            for fault in ("doubled", "lacking"):
                with self.subTest(text, fault=fault):
                    least = happens(plan, fault).least
                    expected = None if least is None else (least, *spots(plan, least, fault)[0])
                    self.assertEqual(shows(plan, fault), expected)

    def test_late_spots(self):
        plan = Plan.read("rounds 20\nup - 0 add\nrounds n-1\nup - 1 put")
        self.assertEqual(str(happens(plan, "lacking")), "- from 22 of 1: 0")
        self.assertEqual(shows(plan, "lacking"), (22, *spots(plan, 22, "lacking")[0]))


class TestNoFault(unittest.TestCase):
    def test_a_fault_that_there_is_not(self):
        for value in any_values() + ["Doubled", " lacking", "right", ("lacking",), ["doubled"]]:
            for call in (happens, shows):
                with self.assertRaises(InvalidFault):
                    call(Plan.read(ONCE), value)
                with self.assertRaises(InvalidFault):
                    call(plan=None, fault=value)


class TestLimits(unittest.TestCase):
    # Both have four lanes and go round as often as can be.
    WRONG = "rounds 4n\nup - (n)/2 add\ndown + 0 add\nup - 1 add\ndown + 2 put"
    GOOD = FAIR.replace("rounds (n)/2\nup - 0 put\ndown + 0", "rounds 4n+4\nup - 0 put\ndown + 0")

    def test_bounds(self):
        self.assertEqual((bound_of(Plan.read(self.WRONG)), bound_of(Plan.read(self.GOOD))), (400, 336))

    def test_a_wrong_plan(self):
        plan = Plan.read(self.WRONG)
        self.assertEqual((str(right(plan)), str(happens(plan, "lacking"))), ("1", "- from 2 of 1: 0"))
        self.assertIs(is_right(plan), False)
        self.assertEqual(shows(plan, "lacking")[0], 2)
        self.assertEqual((shows(plan, "doubled") or (None,))[0], happens(plan, "doubled").least)

    def test_a_right_plan(self):
        plan = Plan.read(self.GOOD)
        self.assertIs(is_right(plan), True)
        self.assertEqual((str(happens(plan, "doubled")), shows(plan, "lacking")), ("-", None))


if __name__ == "__main__":
    unittest.main()
