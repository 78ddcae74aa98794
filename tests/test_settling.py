"""From where on plans do the same again ([16] to [18]), and that what was found out once is not looked for anew."""

import random
import unittest
from math import lcm
from unittest import mock

from ringsums import comparing, deciding
from ringsums.comparing import alike, needless, parting, repairs, same_for, spare
from ringsums.deciding import bound_of, happens, is_right, period_of, right, shows
from ringsums.forms import Form
from ringsums.plans import Block, Lane, Plan
from ringsums.settling import settled_from
from ringsums.tables import faults_at, marks_at
from samples import FAIR, HALF, MIXED, ONCE, TEXTS

# As the issues tell them: they take longest.
FOUR_LANES = "rounds 4n\nup - (n)/2 add\ndown + 0 add\nup - 1 add\ndown - 0 add"
HALVES = "rounds (n)/2\nup - (n)/2 add\ndown + (n+2)/2 add\nrounds (n)/2\nup - 0 put\ndown + 0 put"

# Told by hand: F * (2 (start + last + 2) + the greater one of 2 start + 5 and 6 H + 12).
SETTLED = [
    ("", 1, 1 * (2 * 2 + 12)),
    (ONCE, 1, 1 * (2 * (1 + 1 + 2) + 12)),
    (HALF, 4, 4 * (2 * (1 + 1 + 2) + 12)),
    (HALVES, 4, 4 * (2 * (2 + 1 + 2) + 12)),
    (FOUR_LANES, 4, 4 * (2 * (1 + 0 + 2) + 6 * 4 + 12)),
    # Many cells off: 2 start + 5 is greater.
    ("rounds n+3\nup - -4 add", 1, 1 * (2 * (4 + 3 + 2) + 2 * 4 + 5)),
    ("rounds (n-4)/2\nup - (n+3)/2 add", 2, 2 * (2 * (2 + 3 + 2) + 12)),
    # Sweeps that do not follow: as often as they go round, rounded up, and not if they end.
    ("rounds n\nup + 0 add", 1, 1 * (2 * 2 + 6 * 1 + 12)),
    ("rounds (3n)/2\ndown - 0 add\nup - 0 put\nup + 0 put", 4, 4 * (2 * (0 + 1 + 2) + 6 * 4 + 12)),
    ("rounds -n\nup + 0 add\nrounds 2\nup + 0 add", 1, 1 * (2 * (0 + 2 + 2) + 12)),
]

# At random climbs, these came nearest to the number that is told: at about half of it they still change.
LATE = [
    "rounds n+4\nup - -4 add\nrounds n+4\ndown + 4 add",
    "rounds n+4\nup - -3 add\nup - -4 add\nrounds 0\nup + -2 add\nrounds n+4\ndown + n+4 add",
    "rounds n+4\nup - (n-4)/2 add\nrounds 3n\nup + (0)/2 put\nrounds n+4\ndown + 4n+4 add",
    "rounds (3n+1)/2\ndown + n+1 add\ndown + -4 add\nrounds 4n+1\ndown - (-1)/2 add\ndown - (-3n)/2 add",
    "rounds (3n)/2\nup - n-3 add\nrounds 4n-1\ndown - -1 add\nup + (-n-1)/2 add\nup + (-4)/2 add",
    "rounds n+4\nup - (n-2)/2 add\nrounds n+4\nup + (0)/2 put\ndown + (2n+1)/2 add",
]
LATE_PAIRS = [
    ("rounds 4n+4\nup - -4 add\nup - -1 put\nrounds 2\nup - -1 put",
     "rounds 2n+4\nup - -4 add\nup - -1 put\nrounds 4\ndown + 4n+4 put"),
    ("rounds 2n+2\nup - 2 add\nrounds 2n\ndown + 1 put\nrounds (n-4)/2\nup - 1 add",
     "rounds n+1\nup - 2 add\nrounds 2n+4\ndown + (4)/2 add\ndown + 2n-2 put\nrounds n+4\nup - (n-3)/2 add"),
    ("rounds 2n\ndown + 0 add\nrounds 3n-1\nup - 2n-3 add",
     "rounds n+4\nup - -3 add\nrounds n+4\ndown + 4n-2 add\ndown + -n+3 add"),
]


def some_form(choose, times):
    """Return some form with one of these times."""
    return Form(choose.choice(times), choose.choice((0, 0, 1, -1, 2, -2, 3, -4)), choose.choice((1, 1, 1, 2)))


def some_plan(choose):
    """Return some plan within the limits."""
    blocks = []
    for count in choose.choice(((1,), (2,), (1, 1), (2, 2), (1, 2), (1, 1, 1), (2, 1, 1), (4,))):
        lanes = [
            Lane(choose.choice(("up", "down")), choose.choice("+-"), some_form(choose, (0, 0, 1, -1, 2)),
                 choose.choice(("add", "add", "put")))
            for _ in range(count)
        ]
        blocks.append(Block(some_form(choose, (1, 1, 1, 2, 3, 0, -1)), lanes))
    plan = Plan(blocks)
    return plan if bound_of(plan) <= 300 else some_plan(choose)


def some_other(choose, plan):
    """Return a plan with one plus otherwise."""
    at = choose.randrange(len(plan))
    lane = choose.randrange(-1, len(plan[at].lanes))
    return comparing._changed(plan, at, lane, choose.choice((1, -1)))


def bound_of_both(p, q):
    """Return the bound for two plans, as the document tells it."""
    period = lcm(period_of(p), period_of(q))
    reach, sweeps = [], 0
    for plan in (p, q):
        forms = [lane.shift for block in plan.blocks for lane in block.lanes]
        rounds = [block.rounds for block in plan.blocks]
        common = lcm(1, *[form.by for form in forms + rounds])
        reach.append(3 + 2 * common + max([abs(form.plus) for form in forms], default=0)
                     + max([abs(form.plus) for form in rounds], default=0))
        sweeps += sum(len(block.lanes) * (2 + block.rounds.times // block.rounds.by)
                      for block in plan.blocks if block.rounds.times >= 0)
    return period * (2 * max(reach) + 3 * sweeps + 10)


class TestSettled(unittest.TestCase):
    def check_plan(self, plan):
        """The faults repeat themselves from where it is told up to the bound; the answers are those of the bound."""
        period, bound = period_of(plan), bound_of(plan)
        faults = [None] + [faults_at(plan, n) for n in range(1, bound + period + 1)]
        for n in range(settled_from(period, [plan]), bound + 1):
            self.assertEqual(faults[n], faults[n + period], f"{n}: {plan}")
        good, doubled = right(plan), happens(plan, "doubled")
        for n in range(1, bound + period):
            self.assertIs(n in good, faults[n] == ())
            self.assertIs(n in doubled, "doubled" in faults[n])

    def check_pair(self, p, q):
        """As for one plan."""
        period, bound = lcm(period_of(p), period_of(q)), bound_of_both(p, q)
        sames = [None] + [marks_at(p, n) == marks_at(q, n) for n in range(1, bound + period + 1)]
        for n in range(settled_from(period, [p, q]), bound + 1):
            self.assertEqual(sames[n], sames[n + period], f"{n}: {p} / {q}")
        found = same_for(p, q)
        self.assertEqual([n in found for n in range(1, bound + period)], sames[1:bound + period])

    def test_known(self):
        for text, period, settled in SETTLED:
            with self.subTest(text):
                plan = Plan.read(text)
                self.assertEqual((period_of(plan), settled_from(period, [plan])), (period, settled))
                self.assertEqual(settled_from(period, [plan, plan]), settled)

    def test_two_plans(self):
        p, q = Plan.read(FOUR_LANES), Plan.read("rounds n-4\ndown + 3 add\nup + 0 put")
        self.assertEqual(settled_from(4, [p, q]), 4 * (2 * (3 + 4 + 2) + 6 * 4 + 12))
        self.assertEqual(settled_from(4, [q, p]), settled_from(4, [p, q]))

    def test_samples(self):
        for text in [*TEXTS.values(), FAIR, HALVES, *LATE]:
            self.check_plan(Plan.read(text))

    def test_some_plans(self):
        choose = random.Random(1)
        for _ in range(60):
            self.check_plan(some_plan(choose))

    def test_sample_pairs(self):
        texts = [ONCE, HALF, FAIR, MIXED]
        for one, other in [*LATE_PAIRS, *[(one, other) for one in texts for other in texts]]:
            self.check_pair(Plan.read(one), Plan.read(other))

    def test_some_pairs(self):
        choose = random.Random(2)
        count = 0
        while count < 25:
            p = some_plan(choose)
            q = some_other(choose, p) if choose.random() < 0.7 else some_plan(choose)
            if bound_of_both(p, q) <= 400:
                self.check_pair(p, q)
                count += 1


class TestAskedAgain(unittest.TestCase):
    QUESTIONS = [
        right, is_right, lambda plan: happens(plan, "lacking"), lambda plan: happens(plan, "doubled"),
        lambda plan: shows(plan, "lacking"), lambda plan: shows(plan, "doubled"),
    ]
    COMPARED = [
        same_for, alike, parting, lambda p, q: same_for(q, p), lambda p, q: alike(q, p), lambda p, q: parting(q, p),
    ]

    def test_each_number_is_tried_once(self):
        for text in (HALVES, HALF, ONCE, "rounds 1\nup - 0 add"):
            plan = Plan.read(text)
            with mock.patch.object(deciding, "faults_at", wraps=faults_at) as tried:
                for question in self.QUESTIONS:
                    question(plan)
            numbers = [call.args[1] for call in tried.call_args_list]
            self.assertEqual(numbers, list(range(1, len(numbers) + 1)))
            self.assertLess(len(numbers), bound_of(plan) / 2 + 5)

    def test_each_number_is_compared_once(self):
        p, q = Plan.read(HALVES), Plan.read(HALVES.replace("(n+2)", "(n+3)"))
        with mock.patch.object(comparing, "marks_at", wraps=marks_at) as tried:
            for question in self.COMPARED:
                question(p, q)
        # Besides, each of the partings looks at the marks for one number.
        self.assertLess(tried.call_count, 2 * (4 * (2 * 5 + 12) + 4) + 5)

    def test_in_any_order(self):
        texts = [HALF, ONCE, FAIR, MIXED, HALVES, "", "rounds 3\nup - 0 add\nrounds 3\nup - 1 put"]
        choose = random.Random(3)
        for text in texts:
            alone = [question(Plan.read(text)) for question in self.QUESTIONS]
            for _ in range(4):
                plan = Plan.read(text)
                order = choose.choices(range(len(self.QUESTIONS)), k=10)
                self.assertEqual([self.QUESTIONS[at](plan) for at in order], [alone[at] for at in order])

    def test_with_several_partners_in_any_order(self):
        texts = [HALF, ONCE, FAIR, HALVES, "", HALF.replace("down + 0", "down + 1")]
        choose = random.Random(4)
        plans = [Plan.read(text) for text in texts]
        for _ in range(60):
            at, other = choose.choices(range(len(texts)), k=2)
            question = choose.choice(self.COMPARED)
            self.assertEqual(question(plans[at], plans[other]), question(Plan.read(texts[at]), Plan.read(texts[other])))

    def test_plans_stay_as_they_are(self):
        p, q = Plan.read(HALF), Plan.read(ONCE)
        for question in self.QUESTIONS:
            question(p)
        for question in self.COMPARED:
            question(p, q)
        needless(p), repairs(p), spare(p, 0)
        self.assertEqual((p, str(p), p.blocks, len(p)), (Plan.read(HALF), HALF, Plan.read(HALF).blocks, 2))
        self.assertNotEqual(p, q)
        # What is made of them knows nothing of them yet.
        self.assertEqual(str(right(p + q)), str(right(Plan.read(f"{HALF}\n{ONCE}"))))
        self.assertEqual(str(right(p.without(1))), str(right(Plan.read(HALF.split("\nrounds")[0]))))


if __name__ == "__main__":
    unittest.main()
