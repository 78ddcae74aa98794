"""Promises [1] to [3]: the conventions, as far as they speak of what there is."""

import unittest

from ringsums.calendars import Calendar
from ringsums.comparing import alike, needless, parting, repairs, same_for, spare
from ringsums.costs import ends, hops, lean, pace, rooms, sent
from ringsums.deciding import bound_of, happens, is_right, period_of, right, shows
from ringsums.desk import Desk
from ringsums.errors import RingError
from ringsums.fewest import schedule, schedule_holds
from ringsums.forms import Form
from ringsums.live import Ring
from ringsums.plans import Block, Lane, Plan
from ringsums.plays import Slip, play, suspects
from ringsums.tables import faults_at, held, spots
from samples import HALF, ONCE, any_values, nested


class TestConventions(unittest.TestCase):
    def objects(self):
        lane = Lane("up", "-", Form(1), "add")
        block = Block(Form(1), [lane])
        plan = Plan([block, block])
        return [
            Form(1, 2, 3), lane, block, plan, Plan(), Slip("lost", 0, 0, 0), play(plan, [[1], [2]]), Calendar(),
            Calendar([1], 4, 2, [0]), Ring(plan, [[1], [2]]), Ring(plan, [[1], [2]]).trial(), Desk(),
        ]

    def answers(self, p, q):
        """Return what all functions that take plans alone tell of two plans."""
        return [
            held(p, 4), faults_at(p, 4), spots(p, 4, "doubled"), period_of(p), bound_of(p), right(p),
            happens(p, "doubled"), is_right(p), shows(p, "doubled"), same_for(p, q), alike(p, q), parting(p, q),
            needless(p), repairs(p), spare(p, 1), pace(p), sent(p, 4, 6), hops(p, 4), lean(p), ends(p, [0, 7, 0]),
            rooms(p, [0, 7, 0]),
        ]

    def test_no_object_is_iterable(self):
        for thing in self.objects():
            walks = [iter, list, tuple, sorted, sum, enumerate, lambda xs: [*xs], lambda xs: 1 in xs]
            # A calendar tells what is in it, but is not iterated over for this.
            for walk in walks[:-1] if isinstance(thing, Calendar) else walks:
                with self.subTest(thing.__class__.__name__):
                    with self.assertRaises(TypeError):
                        walk(thing)

    def test_equal_to_nothing_of_another_class(self):
        for one in self.objects():
            for other in self.objects() + any_values():
                if one.__class__ is not other.__class__:
                    self.assertIs(one == other, False)
                    self.assertIs(one != other, True)

    def test_deep_values_raise_only_what_is_told(self):
        deep = nested(8)
        for make in (lambda: Form(deep), lambda: Lane("up", "+", deep, "add"), lambda: Block(Form(), deep),
                     lambda: Plan(deep), lambda: play(Plan(), deep), lambda: Slip(deep, 0, 0, 0),
                     lambda: Calendar(deep), lambda: Calendar((), deep), lambda: Calendar((), 1, 1, deep),
                     lambda: spots(Plan(), 1, deep), lambda: happens(Plan(), deep), lambda: shows(Plan(), deep),
                     lambda: Ring(Plan(), deep), lambda: Ring(Plan(), [[1], [2]]).fall(deep),
                     lambda: Desk().say(deep)):
            with self.assertRaises(RingError):
                make()
        self.assertIs(schedule_holds(2, 1, deep), False)

    def test_arguments_by_name(self):
        plan = Plan(blocks=[Block(rounds=Form(times=1), lanes=[Lane(way="up", sign="-", shift=Form(), deed="add")])])
        slip = Slip(kind="lost", turn=0, machine=0, lane=0)
        played = play(plan=plan, rows=[[1], [2]], slips=[slip])
        self.assertEqual(played.rows, play(plan, [[1], [2]], [slip]).rows)
        self.assertIn(slip, suspects(plan=plan, rows=[[1], [2]], seen=played.rows))

    def test_plans_and_all_else_by_name(self):
        p, q = Plan.read(ONCE), Plan.read(HALF)
        named = [
            held(n=4, plan=p), faults_at(n=4, plan=p), spots(fault="doubled", n=4, plan=p), period_of(plan=p),
            bound_of(plan=p), right(plan=p), happens(fault="doubled", plan=p), is_right(plan=p),
            shows(fault="doubled", plan=p), same_for(q=q, p=p), alike(q=q, p=p), parting(q=q, p=p), needless(plan=p),
            repairs(plan=p), spare(at=1, plan=p), pace(plan=p), sent(length=6, n=4, plan=p), hops(n=4, plan=p),
            lean(plan=p), ends(late=[0, 7, 0], plan=p), rooms(late=[0, 7, 0], plan=p),
        ]
        self.assertEqual(named, self.answers(p, q))
        self.assertEqual(Calendar(rests=[1], period=2, start=3, few=[2]), Calendar([2], 3, 2, [1]))

    def test_lists_that_are_changed_behind_the_call(self):
        lane = Lane("up", "-", Form(0, 1), "add")
        lanes = [lane]
        block = Block(Form(1), lanes)
        blocks = [block]
        plan = Plan(blocks)
        before = (str(block), str(plan), len(plan), plan.all_rounds(5))
        lanes.clear()
        blocks.append(block)
        self.assertEqual((str(block), str(plan), len(plan), plan.all_rounds(5)), before)

    def test_sequences_that_are_changed_behind_the_call(self):
        few, rests = [2, 4], [1]
        calendar = Calendar(few, 5, 2, rests)
        few.clear()
        rests.append(0)
        self.assertEqual(calendar, Calendar([2, 4], 5, 2, [1]))
        plan = Plan.read(ONCE)
        rows, late, slips = [[1, 2], [3, 4]], [0, 3], [Slip("lost", 0, 0, 0)]
        ring = Ring(plan, rows)
        played = play(plan, rows, slips)
        told = ends(plan, late), rooms(plan, late)
        ring.step(slips)
        self.assertEqual((rows, late, slips), ([[1, 2], [3, 4]], [0, 3], [Slip("lost", 0, 0, 0)]))
        rows[0].clear()
        rows.append(7)
        slips.clear()
        late.pop()
        self.assertEqual((ring.firsts, ring.rest(), played.sums), (((1, 2), (3, 4)), played.rows, (4, 6)))
        self.assertEqual(told, (ends(plan, (0, 3)), rooms(plan, (0, 3))))

    def test_in_place_operators_return_new_objects(self):
        plan, calendar = Plan.read(ONCE), Calendar([2], 5, 2, [1])
        longer, more, less, same, other = plan, calendar, calendar, calendar, calendar
        longer += plan
        more |= Calendar([3], 4)
        less -= Calendar([2], 3)
        same &= calendar
        other ^= calendar
        self.assertEqual((plan, calendar), (Plan.read(ONCE), Calendar([2], 5, 2, [1])))
        self.assertEqual((len(longer), str(more), str(less), same, other),
                         (4, "2 from 3 of 2: 1", "- from 4 of 2: 1", calendar, Calendar()))

    def test_what_is_returned_can_be_passed_on(self):
        plan = Plan.read(ONCE)
        played = play(plan, [[1, 2, 3], [4, 5, 6]])
        self.assertEqual(play(plan, played.rows).rows, ((10, 14, 18), (10, 14, 18)))
        self.assertEqual(Plan(plan.blocks), plan)
        self.assertEqual(Block(plan[0].rounds, plan[0].lanes), plan[0])
        calendar = right(Plan.read(HALF))
        again = Calendar(calendar.few, calendar.start, calendar.period, calendar.rests)
        self.assertEqual(again, calendar)
        self.assertEqual(again & ~calendar, Calendar())

    def test_sequences_that_are_returned_are_tuples(self):
        p, q = Plan.read(ONCE), Plan.read(HALF)
        calendar = Calendar([2], 3, 2, [1])
        ring = Ring(p, [[1], [2]])
        for found in (held(p, 2), faults_at(p, 2), spots(q, 2, "doubled"), shows(q, "doubled"), parting(p, q),
                      needless(p), repairs(p), calendar.few, calendar.rests, calendar.share, pace(p), sent(p, 2, 2),
                      ends(p, [1, 2]), ends(Plan(), [1, 2]), schedule(2, 2), schedule(1, 1), ring.rows, ring.firsts,
                      ring.rest()):
            self.assertIsInstance(found, tuple)
        for found in (held(p, 2)[0], spots(q, 2, "doubled")[0], repairs(p)[0]):
            self.assertIsInstance(found, tuple)

    def test_the_same_call_returns_an_equal_result(self):
        rows = [[1, 2, 3], [4, 5, 6]]
        slip = Slip("again", 0, 1, 0)
        plans = [Plan.read(ONCE), Plan.read(HALF)]
        first = [play(plan, rows, [slip]) for plan in plans]
        self.assertEqual([play(plan, rows, [slip]) for plan in plans], first)
        answers = self.answers(*plans), self.answers(*plans[::-1])
        self.assertEqual((self.answers(*plans), self.answers(*plans[::-1])), answers)
        self.assertEqual(plans, [Plan.read(ONCE), Plan.read(HALF)])
        self.assertNotEqual(play(plans[0], rows), first[0])
        self.assertNotEqual(first[0], first[1])


if __name__ == "__main__":
    unittest.main()
