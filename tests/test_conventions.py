"""Promises [1] to [3]: the conventions, as far as they speak of what there is."""

import unittest

from ringsums.forms import Form
from ringsums.plans import Block, Lane, Plan
from ringsums.plays import Slip, play, suspects
from samples import HALF, ONCE, any_values, nested


class TestConventions(unittest.TestCase):
    def objects(self):
        lane = Lane("up", "-", Form(1), "add")
        block = Block(Form(1), [lane])
        plan = Plan([block, block])
        return [Form(1, 2, 3), lane, block, plan, Plan(), Slip("lost", 0, 0, 0), play(plan, [[1], [2]])]

    def test_no_object_is_iterable(self):
        for thing in self.objects():
            for walk in (iter, list, tuple, sorted, sum, enumerate, lambda xs: [*xs], lambda xs: 1 in xs):
                with self.subTest(thing.__class__.__name__):
                    with self.assertRaises(TypeError):
                        walk(thing)

    def test_equal_to_nothing_of_another_class(self):
        for one in self.objects():
            for other in self.objects() + any_values():
                if one.__class__ is not other.__class__:
                    self.assertIs(one == other, False)
                    self.assertIs(one != other, True)

    def test_deep_values_raise_only_what_is_told(self):
        deep = nested(8)
        for make in (lambda: Form(deep), lambda: Lane("up", "+", deep, "add"), lambda: Block(Form(), deep),
                     lambda: Plan(deep), lambda: play(Plan(), deep), lambda: Slip(deep, 0, 0, 0)):
            with self.assertRaises(ValueError):
                make()

    def test_arguments_by_name(self):
        plan = Plan(blocks=[Block(rounds=Form(times=1), lanes=[Lane(way="up", sign="-", shift=Form(), deed="add")])])
        slip = Slip(kind="lost", turn=0, machine=0, lane=0)
        played = play(plan=plan, rows=[[1], [2]], slips=[slip])
        self.assertEqual(played.rows, play(plan, [[1], [2]], [slip]).rows)
        self.assertIn(slip, suspects(plan=plan, rows=[[1], [2]], seen=played.rows))

    def test_lists_that_are_changed_behind_the_call(self):
        lane = Lane("up", "-", Form(0, 1), "add")
        lanes = [lane]
        block = Block(Form(1), lanes)
        blocks = [block]
        plan = Plan(blocks)
        before = (str(block), str(plan), len(plan), plan.all_rounds(5))
        lanes.clear()
        blocks.append(block)
        self.assertEqual((str(block), str(plan), len(plan), plan.all_rounds(5)), before)

    def test_what_is_returned_can_be_passed_on(self):
        plan = Plan.read(ONCE)
        played = play(plan, [[1, 2, 3], [4, 5, 6]])
        self.assertEqual(play(plan, played.rows).rows, ((10, 14, 18), (10, 14, 18)))
        self.assertEqual(Plan(plan.blocks), plan)
        self.assertEqual(Block(plan[0].rounds, plan[0].lanes), plan[0])

    def test_the_same_call_returns_an_equal_result(self):
        rows = [[1, 2, 3], [4, 5, 6]]
        slip = Slip("again", 0, 1, 0)
        plans = [Plan.read(ONCE), Plan.read(HALF)]
        first = [play(plan, rows, [slip]) for plan in plans]
        self.assertEqual([play(plan, rows, [slip]) for plan in plans], first)
        self.assertNotEqual(play(plans[0], rows), first[0])
        self.assertNotEqual(first[0], first[1])


if __name__ == "__main__":
    unittest.main()
