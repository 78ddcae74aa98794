"""Promises [1] to [4] over the whole program: what its parts say of one another, and what errors leave as it was."""

import unittest

from ringsums.calendars import Calendar
from ringsums.comparing import alike, needless, parting, repairs, same_for, spare
from ringsums.costs import ends, hops, lean, pace, rooms, sent
from ringsums.deciding import bound_of, happens, is_right, period_of, right, shows
from ringsums.desk import Desk
from ringsums.errors import InvalidCommand, InvalidRows, InvalidText, NoBlock, Refused, RingError
from ringsums.fewest import fewest, schedule, schedule_holds
from ringsums.forms import Form
from ringsums.live import Ring
from ringsums.plans import Block, Lane, Plan
from ringsums.plays import Slip, cuts, play, suspects
from ringsums.tables import faults_at, held, spots
from samples import FAIR, HALF, MIXED, ONCE, TEXTS, ErrorChecks, sample_rows, sendings

ALL_TEXTS = [*TEXTS.values(), FAIR]

# The plans of section 1, put together by hand.
ONCE_MADE = Plan([
    Block(Form(1, -1), [Lane("up", "-", Form(), "add")]), Block(Form(1, -1), [Lane("up", "-", Form(0, 1), "put")]),
])
HALF_MADE = Plan((
    Block(Form(1, 0, 2), (Lane("up", "-", Form(1, 0, 2), "add"), Lane("down", "+", Form(1, 1, 2), "add"))),
    Block(Form(by=2, times=1), (Lane("up", "-", Form(), "put"), Lane("down", "+", Form(), "put"))),
))


def powers(n):
    """Return rows whose sums tell which numbers are in them, and how often."""
    return [[1000 ** machine] * n for machine in range(n)]


def command_for(text):
    """Return the command that keeps the plan with a text."""
    return "plan " + text.replace("\n", " ; ")


def answers(plan):
    """Return all that can be asked of a plan."""
    rows = sample_rows(3, 4)
    return [
        str(plan), len(plan), plan.blocks, plan.all_rounds(7), held(plan, 4), faults_at(plan, 5),
        spots(plan, 4, "doubled"), period_of(plan), bound_of(plan), right(plan), happens(plan, "lacking"),
        is_right(plan), shows(plan, "doubled"), needless(plan), repairs(plan),
        [spare(plan, at) for at in range(len(plan))], pace(plan), sent(plan, 3, 4), hops(plan, 3), lean(plan),
        ends(plan, [0, 3, 1]), rooms(plan, [0, 3, 1]), play(plan, rows), Ring(plan, rows).rest(),
        suspects(plan, rows, play(plan, rows, [Slip("lost", 0, 1, 0)] * (plan.all_rounds(3) > 0)).rows),
    ]


class TestOneAnother(unittest.TestCase):
    def test_decided_played_and_stepped(self):
        for text in ALL_TEXTS:
            plan = Plan.read(text)
            good, desk = right(plan), Desk()
            if text != "":
                desk.say(command_for(text))
                self.assertEqual(desk.say("right"), str(good))
            for n in range(1, 7):
                with self.subTest(text, n=n):
                    played = play(plan, powers(n))
                    ring = Ring(plan, powers(n))
                    self.assertIs(played.is_right, n in good)
                    self.assertIs(faults_at(plan, n) == (), n in good)
                    self.assertIs(ring.hopes(), n in good)
                    self.assertEqual(sum(ring.step() for _ in range(ring.left)), sum(played.sent))
                    self.assertEqual((ring.rows, ring.is_right), (played.rows, n in good))
                    self.assertEqual(ring.done, plan.all_rounds(n))

    def test_said_and_done(self):
        for text in (ONCE, HALF, MIXED, FAIR):
            desk = Desk()
            desk.say(command_for(text))
            desk.say("rows 1,2,3 10,20,30 100,200,300")
            ring = Ring(Plan.read(text), [[1, 2, 3], [10, 20, 30], [100, 200, 300]])
            for command, deed in (("round", ring.step), ("round", ring.step), ("fall 1", lambda: ring.fall(1)),
                                  ("round", ring.step), ("undo", ring.undo), ("rest", ring.rest)):
                desk.say(command)
                deed()
                self.assertEqual((desk.ring.rows, desk.ring.done, len(desk.ring)), (ring.rows, ring.done, len(ring)))

    def test_lean_is_right_by_the_fewest_hops(self):
        for text in ALL_TEXTS:
            plan = Plan.read(text)
            for n in range(1, 10):
                self.assertIs(n in lean(plan), n in right(plan) and hops(plan, n) == 2 * n - 2)

    def test_a_right_plan_is_a_schedule(self):
        # Piece 0, told as hops by a plan that hands each piece on by one lane a round.
        for n in (1, 2, 3, 4):
            turns = [(machine % n, deed) for deed, first in (("add", 0), ("put", n - 1))
                     for machine in range(first, first + n - 1)]
            told = tuple(((machine, "up", deed),) for machine, deed in turns)
            self.assertIs(schedule_holds(n, 1, told), True)
            self.assertEqual(len(told), hops(Plan.read(ONCE), n))
            if n < 4:
                self.assertEqual(fewest(n, 1), len(told))

    def test_nobody_late_ends_with_the_rounds(self):
        for text in ALL_TEXTS:
            plan = Plan.read(text)
            self.assertEqual(ends(plan, [0] * 5), (plan.all_rounds(5),) * 5)

    def test_a_slip_is_found_again(self):
        plan = Plan.read(ONCE)
        rows = sample_rows(3, 3)
        for sending in sendings(plan, 3):
            slip = Slip("lost", *sending)
            ring = Ring(plan, rows)
            for _ in range(slip.turn):
                ring.step()
            ring.step([slip])
            self.assertIn(slip, suspects(plan, rows, ring.rest()))


class TestReadAndMade(unittest.TestCase):
    def test_the_same_answers(self):
        for text, made in ((ONCE, ONCE_MADE), (HALF, HALF_MADE)):
            plan = Plan.read(text)
            self.assertEqual(plan, made)
            self.assertEqual(answers(plan), answers(made))
            self.assertEqual((alike(plan, made), str(same_for(made, plan))), (True, "- from 1 of 1: 0"))
            self.assertEqual(answers(Plan.read(str(made))), answers(made))
            # Of blocks that were taken out and put together again.
            self.assertEqual(answers(plan.without(1) + Plan([made[1]])), answers(made))

    def test_the_same_call_again(self):
        for text in ALL_TEXTS:
            plan = Plan.read(text)
            first = answers(plan)
            answers(Plan.read(HALF))
            self.assertEqual(answers(plan), first)
            self.assertEqual(answers(Plan.read(text)), first)


class TestErrors(unittest.TestCase, ErrorChecks):
    def test_what_they_are_raised_for(self):
        ring = Ring(Plan.read(ONCE), [[1], [2]])
        desk = Desk()
        cases = [
            (InvalidText, lambda: Plan.read("rounds")), (InvalidText, lambda: desk.say("plan rounds")),
            (InvalidRows, lambda: Ring(Plan(), [])), (InvalidRows, lambda: play(Plan(), [[1], []])),
            (Refused, lambda: ring.fall(2)), (Refused, lambda: ring.step([Slip("lost", 1, 0, 0)])),
            (Refused, lambda: play(Plan(), [[1]], [Slip("lost", 0, 0, 0)])),
            (InvalidCommand, lambda: desk.say("")), (InvalidCommand, lambda: desk.say("right")),
        ]
        for error, call in cases:
            with self.assertRaises(RingError) as caught:
                call()
            self.assertIs(caught.exception.__class__, error)
            self.assertIsInstance(caught.exception, ValueError)
        self.check_at(NoBlock, 2, spare, Plan.read(ONCE), 2)

    def test_nothing_changes(self):
        plan = Plan.read(ONCE)
        before = answers(plan)
        ring = Ring(plan, sample_rows(3, 3))
        ring.step()
        seen = (ring.rows, ring.done, ring.left, len(ring), ring.firsts, ring.plan)
        calls = [
            lambda: spare(plan, 5), lambda: plan.without(-1), lambda: happens(plan, "right"), lambda: ring.fall(3),
            lambda: ring.step([Slip("again", 0, 0, 0)]), lambda: ring.within(lambda held: held.fall(True)),
            lambda: play(plan, [[1], [2]], [Slip("lost", 0, 0, 0)] * 2), lambda: suspects(plan, [[1], 2], []),
        ]
        for call in calls:
            with self.assertRaises((RingError, NoBlock)):
                call()
        self.assertEqual((ring.rows, ring.done, ring.left, len(ring), ring.firsts, ring.plan), seen)
        self.assertEqual(answers(plan), before)

    def test_the_order_of_errors(self):
        ring = Ring(Plan.read(ONCE), [[1], [2]])
        bad = Slip("lost", 9, 9, 9)
        # Wrong rows ahead of wrong slips, no round ahead of wrong slips, a wrong command ahead of all else.
        self.check_at(InvalidRows, 1, play, Plan.read(ONCE), [[1], None], [bad])
        ring.rest()
        self.check_at(Refused, -1, ring.step, [bad])
        desk = Desk()
        with self.assertRaises(InvalidCommand):
            desk.say("rows 1,2 3")
        desk.say(command_for(ONCE))
        self.check_at(InvalidRows, 1, desk.say, "rows 1,2 3")
        with self.assertRaises(InvalidCommand):
            desk.say("rows 1,2 3,x")


class TestByName(unittest.TestCase):
    def test_functions(self):
        p, q = Plan.read(ONCE), Plan.read(HALF)
        pairs = [
            (cuts(n=3, length=7), cuts(7, 3)), (pace(plan=p), pace(p)), (sent(length=5, n=3, plan=p), sent(p, 3, 5)),
            (hops(n=4, plan=q), hops(q, 4)), (lean(plan=q), lean(q)), (ends(late=[1, 0], plan=p), ends(p, [1, 0])),
            (rooms(late=[1, 0], plan=p), rooms(p, [1, 0])), (fewest(ways=2, n=3), fewest(3, 2)),
            (schedule(ways=1, n=2), schedule(2, 1)), (schedule_holds(value=(), ways=1, n=1), True),
            (parting(q=q, p=p), parting(p, q)), (p.without(at=1), p.without(1)), (p.all_rounds(n=5), p.all_rounds(5)),
            (Form.read(text="n"), Form(plus=0, times=1, by=1)), (Plan.read(text=ONCE), p), (Form(1)(n=5), 5),
            (Calendar(rests=[0], period=2, start=1, few=[]), Calendar((), 1, 2, [0])),
        ]
        for named, placed in pairs:
            self.assertEqual(named, placed)

    def test_rings_and_desks(self):
        ring = Ring(rows=[[1, 2], [3, 4], [5, 6]], plan=Plan.read(ONCE))
        self.assertEqual(ring.step(slips=[Slip(lane=0, machine=1, turn=0, kind="again")]), 2)
        self.assertIsNone(ring.fall(machine=2))
        self.assertIsNone(ring.change(plan=Plan.read(HALF)))
        self.assertEqual(ring.within(work=len), 3)
        self.assertEqual(Desk().say(command=command_for(ONCE)), "2")


class TestAttributes(unittest.TestCase):
    def test_each_is_set_when_the_object_is_created(self):
        plan = Plan.read(ONCE)
        objects = [
            (Form(), "times plus by"), (plan[0].lanes[0], "way sign shift deed follows"), (plan[0], "rounds lanes"),
            (plan, "blocks"), (Slip("lost", 0, 0, 0), "kind turn machine lane"),
            (play(plan, [[1], [2]]), "rows sums is_right sent"),
            (Calendar(), "few start period rests least size share"),
            (Ring(plan, [[1], [2]]), "plan rows firsts done left is_right"), (Desk(), "plan ring"),
        ]
        for thing, names in objects:
            for name in names.split(" "):
                self.assertTrue(hasattr(thing, name), name)

    def test_methods_without_a_result(self):
        ring = Ring(Plan.read(ONCE), [[1], [2], [3]])
        self.assertEqual((ring.change(Plan.read(HALF)), ring.fall(0)), (None, None))


if __name__ == "__main__":
    unittest.main()
