"""Promise [18]: plans that are compared, and what they can spare."""

import unittest
from math import lcm

from ringsums.calendars import Calendar
from ringsums.comparing import alike, needless, parting, repairs, same_for, spare
from ringsums.deciding import bound_of, is_right, period_of
from ringsums.errors import NoBlock
from ringsums.plans import Plan
from ringsums.tables import faults_at, held, spots
from samples import FAIR, HALF, MIXED, ONCE, ErrorChecks, examples_outcome, straight_faults, straight_tables

# As they stand in section 10 of the document.
EXAMPLES = r'''
    >>> from ringsums.comparing import alike, needless, parting, spare
    >>> more = Plan.read(str(once).replace("rounds n-1\nup - 1", "rounds n\nup - 1"))
    >>> alike(once, more), str(spare(more, 1)), needless(once), parting(once, half)
    (True, '- from 1 of 1: 0', (), (2, 0, 1))
'''

EVERY = "- from 1 of 1: 0"
MORE = ONCE.replace("rounds n-1\nup - 1", "rounds n\nup - 1")
FOR_FOUR = "rounds 3\nup - 0 add\nrounds 3\nup - 1 put"
THIRDS = "rounds 1\nup - 0 add\nrounds n-1\nup - (n)/3 add"

# For which n two plans do the same, and where they part first.
PAIRS = [
    (ONCE, ONCE, EVERY, None),
    (ONCE, MORE, EVERY, None),
    (ONCE, FAIR, EVERY, None),
    (ONCE, HALF, "- from 1 of 2: 1", (2, 0, 1)),
    (FAIR, HALF, "- from 1 of 2: 1", (2, 0, 1)),
    (ONCE, "", "1", (2, 0, 1)),
    ("", "rounds -3\nup + 0 add", EVERY, None),
    ("rounds 1\nup + 0 put", "rounds 1\nup + 0 put\nup + 0 put", EVERY, None),
    ("rounds 1\nup + 0 add", "", "-", (1, 0, 0)),
    # Twice is the same as thrice, but once is not.
    ("rounds 1\nup + 0 add\nup + 0 add", "rounds 1\nup + 0 add\nup + 0 add\nup + 0 add", EVERY, None),
    ("rounds 1\nup + 0 add", "rounds 1\nup + 0 add\nup + 0 add", "1", (2, 1, 1)),
    ("rounds 2\nup + 0 add", "rounds 3\nup + 0 add", "1", (2, 1, 0)),
    (ONCE, FOR_FOUR, "3 4", (1, 0, 0)),
    (ONCE, "rounds 20\nup - 0 add\nrounds n-1\nup - 1 put", "11 12 13 14 15 16 17 18 19 20 21", (1, 0, 0)),
    (THIRDS, THIRDS.replace("(n)/3", "(n+1)/3"), "- from 1 of 3: 0 1", (2, 0, 0)),
    # Blocks that are alone with their rounds for a few machines.
    (ONCE, f"{ONCE}\nrounds -n+4\nup + 0 add", "- from 4 of 1: 0", (1, 0, 0)),
    (f"{ONCE}\nrounds -n+3\nup + 0 add", f"{ONCE}\nrounds -n+5\nup + 0 add", "1 from 5 of 1: 0", (2, 0, 0)),
]


def classes(table):
    """Return a table with 2 for all that is more."""
    return [[min(count, 2) for count in line] for line in table]


def changed_text(plan, block, lane, change):
    """Return the text of a plan with one plus that is greater by a change."""
    lines = []
    for at, told in enumerate(plan.blocks):
        for number, line in enumerate(str(told).split("\n")):
            if (at, number - 1) == (block, lane):
                form = told.rounds if lane == -1 else told.lanes[lane].shift
                again = form.__class__(form.times, form.plus + change, form.by)
                line = line.replace(f" {form}", f" {again}", 1)
            lines.append(line)
    return "\n".join(lines)


class TestExamples(unittest.TestCase):
    def test_section_10(self):
        self.assertEqual(examples_outcome(EXAMPLES, "section 10"), (0, 3))


class TestSame(unittest.TestCase):
    def test_known_pairs(self):
        for one, other, numbers, first in PAIRS:
            p, q = Plan.read(one), Plan.read(other)
            with self.subTest(one + " / " + other):
                self.assertEqual((str(same_for(p, q)), str(same_for(q, p))), (numbers, numbers))
                self.assertIs(alike(p, q), numbers == EVERY)
                self.assertIs(alike(q, p), numbers == EVERY)
                self.assertEqual((parting(p, q), parting(q, p)), (first, first))

    def test_against_tables_told_straight(self):
        for one, other, _, _ in PAIRS:
            p, q = Plan.read(one), Plan.read(other)
            same = same_for(p, q)
            for n in range(1, 6):
                with self.subTest(one + " / " + other, n=n):
                    tables = [classes(straight_tables(plan, n)[0]) for plan in (p, q)]
                    self.assertIs(n in same, tables[0] == tables[1])

    def test_against_tables_with_more_machines(self):
        for one, other, _, _ in PAIRS:
            p, q = Plan.read(one), Plan.read(other)
            same = same_for(p, q)
            for n in range(6, 26):
                self.assertIs(n in same, classes(held(p, n)) == classes(held(q, n)))

    def test_up_to_beyond_the_bound(self):
        for one, other, _, _ in PAIRS:
            p, q = Plan.read(one), Plan.read(other)
            same = same_for(p, q)
            period = lcm(period_of(p), period_of(q))
            bound = max(bound_of(p), bound_of(q))
            for n in range(bound, bound + period):
                faults = [[spots(plan, n, fault) for fault in ("doubled", "lacking")] for plan in (p, q)]
                with self.subTest(one + " / " + other, n=n):
                    self.assertIs(n in same, faults[0] == faults[1])

    def test_parting_tells_the_first_pair(self):
        for one, other, _, _ in PAIRS:
            p, q = Plan.read(one), Plan.read(other)
            told = parting(p, q)
            if told is None:
                self.assertEqual(~same_for(p, q), Calendar())
                continue
            n = (~same_for(p, q)).least
            tables = classes(held(p, n)), classes(held(q, n))
            pairs = [(d, e) for d in range(n) for e in range(n) if tables[0][d][e] != tables[1][d][e]]
            self.assertEqual(told, (n, *pairs[0]))

    def test_each_way_to_part(self):
        # With one machine alone all do the same; with two, number 1 is in sum 0 not at all, once, or more often.
        lanes = ["\nup - 1 add" * times for times in (1, 2, 3)]
        none, one, two, three = [Plan.read(""), *[Plan.read(f"rounds n-1{more}") for more in lanes]]
        self.assertEqual([held(plan, 2)[0] for plan in (none, one, two, three)], [(1, 0), (1, 1), (1, 2), (1, 3)])
        for p, q in ((none, one), (none, two), (one, two), (one, three), (none, three)):
            self.assertEqual((parting(p, q), parting(q, p)), ((2, 0, 1), (2, 0, 1)))
            self.assertEqual((str(same_for(p, q)), alike(p, q)), ("1", False))
        self.assertEqual((parting(two, three), str(same_for(two, three))), (None, EVERY))

    def test_the_first_of_many_pairs(self):
        # Sum by sum, and within it from the own number up.
        cases = [("rounds n-2\ndown + -1 put", (3, 0, 0)), ("rounds n-2\nup + 0 put", (3, 2, 0)),
                 ("rounds n-2\nup - 1 add", (3, 0, 2)), ("rounds n-2\ndown - -2 add", (3, 2, 1))]
        for text, first in cases:
            self.assertEqual(parting(Plan.read(text), Plan()), first)
            self.assertEqual(parting(Plan(), Plan.read(text)), first)

    def test_by_names(self):
        p, q = Plan.read(ONCE), Plan.read(HALF)
        self.assertEqual(str(same_for(p=p, q=q)), "- from 1 of 2: 1")
        self.assertEqual((alike(p=p, q=q), parting(p=p, q=q)), (False, (2, 0, 1)))

    def test_one_bound_for_both(self):
        # They part only where the one has no rounds any more; the periods are 2 and 3.
        p = Plan.read("rounds (n)/2\nup - 0 add\nrounds n-1\nup - 0 put")
        q = Plan.read("rounds (n)/3\nup - 0 add\nrounds n-1\nup - 0 put")
        same = same_for(p, q)
        for n in range(1, 40):
            self.assertIs(n in same, classes(held(p, n)) == classes(held(q, n)))


class TestNeedless(unittest.TestCase):
    def test_known(self):
        cases = [
            ("", ()), (ONCE, ()), (MORE, ()), (HALF, ()), (FAIR, ()), (MIXED, ()),
            (f"{ONCE}\nrounds n-1\nup - 1 put", (1, 2)),
            (f"rounds n-1\nup - 0 put\n{ONCE}", ()),
            (f"rounds -3\nup + 0 add\n{ONCE}", (0,)),
            (f"{ONCE}\nrounds -n+4\nup - 1 put", (2,)),
            (f"{ONCE}\nrounds -n+4\nup - 1 add", ()),
            ("rounds 0\nup + 0 add", (0,)),
            ("rounds 0\nup + 0 add\nrounds -n\ndown + 0 add\nrounds 1\nup + 0 add", (0, 1)),
            # Each alone can be spared, not both.
            ("rounds 1\nup + 0 put\nrounds 1\nup + 0 put\nrounds 0\nup + 0 add", (0, 1, 2)),
            # For one machine no put does anything.
            ("rounds 1\nup - 0 put", ()),
            # Only with an even number of machines it is needed.
            (FAIR.replace("rounds (n-1)/2", "rounds 0"), (1,)),
        ]
        for text, blocks in cases:
            with self.subTest(text):
                self.assertEqual(needless(Plan.read(text)), blocks)
                self.assertEqual(needless(plan=Plan.read(text)), blocks)

    def test_alike_without(self):
        for text in (ONCE, HALF, f"{ONCE}\nrounds n-1\nup - 1 put", f"{FAIR}\nrounds 2\nup - 0 add", ""):
            plan = Plan.read(text)
            expected = tuple(at for at in range(len(plan)) if alike(plan, plan.without(at)))
            self.assertEqual(needless(plan), expected)


class TestRepairs(unittest.TestCase):
    def test_each_kind(self):
        cases = [
            (ONCE.replace("n-1\nup - 0", "n-2\nup - 0"), ((0, -1, 1),)),
            (ONCE.replace("n-1\nup - 0", "n\nup - 0"), ((0, -1, -1),)),
            (ONCE.replace("n-1\nup - 1", "n-2\nup - 1"), ((1, -1, 1),)),
            (ONCE.replace("- 1 put", "- 0 put"), ((0, 0, -1), (1, 0, 1))),
            (ONCE.replace("- 1 put", "- 2 put"), ((0, 0, 1), (1, 0, -1))),
            (HALF, ((0, 0, -1), (0, 1, 1))),
            # Right as it is, and still right when it is changed.
            (ONCE, ((1, -1, 1),)),
            (MORE, ((1, -1, -1), (1, -1, 1))),
            (FAIR, ((1, -1, 1), (2, -1, 1))),
            # What is divided is changed, not the quotient.
            (FAIR.replace("rounds (n-1)/2", "rounds (n)/2"), ((1, -1, -1), (2, -1, 1))),
            # Nothing helps.
            ("", ()), ("rounds 1\nup + 0 add", ()), (MIXED, ()), (FOR_FOUR, ()),
            (ONCE.replace("n-1\nup - 0", "n-3\nup - 0"), ()),
            (ONCE.replace("- 1 put", "- 3 put"), ()),
        ]
        for text, changes in cases:
            with self.subTest(text):
                self.assertEqual(repairs(Plan.read(text)), changes)
                self.assertEqual(repairs(plan=Plan.read(text)), changes)

    def test_all_changes_one_by_one(self):
        texts = (ONCE, MORE, HALF, FAIR, f"{ONCE}\nrounds n-1\nup - 1 put",
                 f"{ONCE}\nrounds 2\nup - 1 put\ndown - 1 put")
        for text in texts:
            plan = Plan.read(text)
            expected = tuple(
                (at, lane, change)
                for at in range(len(plan)) for lane in range(-1, len(plan[at].lanes)) for change in (-1, 1)
                if is_right(Plan.read(changed_text(plan, at, lane, change)))
            )
            with self.subTest(text):
                self.assertEqual(repairs(plan), expected)

    def test_against_tables_told_straight(self):
        plan = Plan.read(HALF)
        for at, lane, change in [(0, -1, 1), (0, -1, -1), (0, 0, 1), (0, 0, -1), (0, 1, 1), (0, 1, -1), (1, 1, 1)]:
            again = Plan.read(changed_text(plan, at, lane, change))
            good = all(straight_faults(straight_tables(again, n)[0]) == () for n in range(1, 7))
            self.assertIs((at, lane, change) in repairs(plan), good)


class TestSpare(unittest.TestCase, ErrorChecks):
    def test_known(self):
        cases = [
            (ONCE, ["-", "-"]), (MORE, ["-", EVERY]), (HALF, ["-", "-"]), (FAIR, ["-", "-", "-"]),
            (ONCE.replace("n-1\nup - 1", "n+4\nup - 1"), ["-", EVERY]),
            # A block has rounds for a few machines only.
            (f"{ONCE}\nrounds -n+4\nup - 1 put", ["-", "2", "1 2 3"]),
            (f"{ONCE}\nrounds -2n+7\nup - 1 put", ["-", "2", "1 2 3"]),
            (f"{ONCE}\nrounds n-4\nup - 1 put", ["-", "-", "- from 5 of 1: 0"]),
            (f"{ONCE}\nrounds (n-3)/2\nup - 1 put", ["-", "-", "- from 5 of 1: 0"]),
            (f"{ONCE}\nrounds 0\nup - 1 put", ["-", "-", "-"]),
            (f"{ONCE}\nrounds -n\nup - 1 put", ["-", "-", "-"]),
            # One round is a whole quotient less.
            (FAIR.replace("rounds (n-1)/2", "rounds (n)/2"), ["-", "- from 1 of 2: 0", "-"]),
            (FAIR.replace("rounds (n)/2\nup - 0", "rounds (n+3)/2\nup - 0"), ["-", "-", EVERY]),
            # What is right only with a round less is not right now.
            (ONCE.replace("n-1\nup - 0", "n\nup - 0"), ["- from 2 of 1: 0", "-"]),
            (f"{ONCE}\nrounds 1\nup - 0 add", ["-", "-", "-"]),
            (FOR_FOUR, ["3", "3"]),
        ]
        for text, calendars in cases:
            plan = Plan.read(text)
            with self.subTest(text):
                self.assertEqual([str(spare(plan, at)) for at in range(len(plan))], calendars)
                self.assertEqual([str(spare(plan=plan, at=at)) for at in range(len(plan))], calendars)

    def test_against_plans_told_anew(self):
        texts = (ONCE, MORE, HALF, FAIR, FOR_FOUR, f"{ONCE}\nrounds (-n+9)/2\nup - 1 put",
                 f"{FAIR}\nrounds 2\nup - 0 add")
        for text in texts:
            plan = Plan.read(text)
            for at, block in enumerate(plan.blocks):
                found = spare(plan, at)
                self.assertIsInstance(found, Calendar)
                for n in range(1, 30):
                    lines = str(block).split("\n")
                    lines[0] = f"rounds {block.rounds(n) - 1}"
                    less = Plan(plan.blocks[:at] + Plan.read("\n".join(lines)).blocks + plan.blocks[at + 1:])
                    good = block.rounds(n) >= 1 and faults_at(plan, n) == () and faults_at(less, n) == ()
                    self.assertIs(n in found, good)

    def test_no_block(self):
        for text in ("", ONCE, FAIR, MIXED):
            plan = Plan.read(text)
            for at in (-1, -len(plan) - 1, len(plan), len(plan) + 1, 10 ** 9, -10 ** 9):
                self.check_at(NoBlock, at, spare, plan, at)
        for at in (True, False):
            self.check_at(NoBlock, at, spare, Plan.read(ONCE), at)


class TestLimits(unittest.TestCase):
    LONG = FAIR.replace("rounds (n)/2\nup - 0 put\ndown + 0", "rounds 4n\nup - 0 put\ndown + 0")
    OTHER = HALF.replace("rounds (n)/2\nup - 0 put\ndown + 0", "rounds 2n\nup - 0 put\nrounds 3n+4\ndown + 3")

    def test_a_bound_of_500_for_both(self):
        p, q = Plan.read(self.LONG), Plan.read(self.OTHER)
        # Each alone has F = 4, so both have; D is 10 and 14, S is 16 and 13.
        self.assertEqual((bound_of(p), bound_of(q)), (4 * (2 * 10 + 3 * 16 + 10), 4 * (2 * 14 + 3 * 13 + 10)))
        self.assertEqual(4 * (2 * 14 + 3 * (16 + 13) + 10), 500)
        self.assertEqual(str(same_for(p, q)), "- from 1 of 2: 1")
        self.assertEqual((alike(p, q), parting(p, q)), (False, (2, 0, 1)))

    def test_two_that_are_alike(self):
        p, q = Plan.read(self.LONG), Plan.read(ONCE)
        self.assertIs(alike(p, q), True)
        self.assertIsNone(parting(q, p))

    def test_what_a_long_plan_can_spare(self):
        plan = Plan.read(self.LONG)
        self.assertEqual(needless(plan), ())
        self.assertEqual(repairs(plan), ((1, -1, 1), (2, -1, -1), (2, -1, 1)))
        self.assertEqual(str(spare(plan, 2)), EVERY)


if __name__ == "__main__":
    unittest.main()
