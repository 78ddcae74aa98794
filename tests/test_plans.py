"""Promises [6] and [7]: lanes, blocks and plans."""

import unittest

from ringsums.errors import InvalidBlock, InvalidLane, InvalidPlan, InvalidText, NoBlock
from ringsums.forms import Form
from ringsums.plans import Block, Lane, Plan
from samples import HALF, MIXED, ONCE, ErrorChecks, any_values

UP = Lane("up", "-", Form(1, -1), "add")
DOWN = Lane("down", "+", Form(0, 2), "put")
FIRST = Block(Form(1, -1), [UP])
SECOND = Block(Form(1, 0, 2), (DOWN, UP))
THIRD = Block(Form(0, 3), [DOWN])


class TestLanes(unittest.TestCase, ErrorChecks):
    def test_attributes(self):
        self.assertEqual((UP.way, UP.sign, UP.shift, UP.deed), ("up", "-", Form(1, -1), "add"))
        self.assertEqual((DOWN.way, DOWN.sign, DOWN.shift, DOWN.deed), ("down", "+", Form(0, 2), "put"))

    def test_by_names(self):
        self.assertEqual(Lane(deed="add", shift=Form(1, -1), sign="-", way="up"), UP)

    def test_texts(self):
        self.assertEqual(str(UP), "up - n-1 add")
        self.assertEqual(str(DOWN), "down + 2 put")
        self.assertEqual(str(Lane("down", "-", Form(-1, 1, 2), "add")), "down - (-n+1)/2 add")

    def test_wrong_arguments(self):
        for value in any_values() + ["Up", "up ", "left", "++", "adds", "ADD"]:
            if value != "up":
                self.check_word(InvalidLane, "way", Lane, value, "+", Form(), "add")
            if value != "+":
                self.check_word(InvalidLane, "sign", Lane, "up", value, Form(), "add")
            if not isinstance(value, Form):
                self.check_word(InvalidLane, "shift", Lane, "up", "+", value, "add")
            if value != "add":
                self.check_word(InvalidLane, "deed", Lane, "up", "+", Form(), value)

    def test_the_first_wrong_argument_is_named(self):
        self.check_word(InvalidLane, "way", Lane, 1, 2, 3, 4)
        self.check_word(InvalidLane, "sign", Lane, "down", 2, 3, 4)
        self.check_word(InvalidLane, "shift", Lane, "down", "-", 3, 4)
        self.check_word(InvalidLane, "deed", Lane, "down", "-", Form(), 4)
        self.check_word(InvalidLane, "sign", Lane, deed=1, shift=0, sign="up", way="up")

    def test_follows(self):
        for shift in (Form(), Form(1, -1)):
            for deed in ("add", "put"):
                self.assertIs(Lane("up", "-", shift, deed).follows, True)
                self.assertIs(Lane("down", "+", shift, deed).follows, True)
                self.assertIs(Lane("up", "+", shift, deed).follows, False)
                self.assertIs(Lane("down", "-", shift, deed).follows, False)

    def test_equal_if_the_texts_are(self):
        lanes = [
            Lane(way, sign, shift, deed) for way in ("up", "down") for sign in ("+", "-")
            for shift in (Form(), Form(1), Form(0, 0, 2)) for deed in ("add", "put")
        ]
        for one in lanes:
            for other in lanes:
                self.assertEqual(one == other, str(one) == str(other))
                self.assertEqual(one != other, str(one) != str(other))
        self.assertEqual(UP, Lane("up", "-", Form(1, -1), "add"))

    def test_equal_to_nothing_else(self):
        for value in any_values() + [str(UP), FIRST]:
            if not isinstance(value, Lane):
                self.assertFalse(UP == value)


class TestBlocks(unittest.TestCase, ErrorChecks):
    def test_attributes(self):
        self.assertEqual(FIRST.rounds, Form(1, -1))
        self.assertEqual(FIRST.lanes, (UP,))
        self.assertEqual(SECOND.lanes, (DOWN, UP))
        self.assertIsInstance(FIRST.lanes, tuple)

    def test_by_names(self):
        self.assertEqual(Block(lanes=(UP,), rounds=Form(1, -1)), FIRST)

    def test_later_changes_have_no_effect(self):
        lanes = [UP]
        block = Block(Form(1), lanes)
        lanes.append(DOWN)
        self.assertEqual(block.lanes, (UP,))

    def test_texts(self):
        self.assertEqual(str(FIRST), "rounds n-1\nup - n-1 add")
        self.assertEqual(str(SECOND), "rounds (n)/2\ndown + 2 put\nup - n-1 add")

    def test_wrong_arguments(self):
        for value in any_values():
            if not isinstance(value, Form):
                self.check_word(InvalidBlock, "rounds", Block, value, [UP])
            self.check_word(InvalidBlock, "lanes", Block, Form(), value)
        for value in ([UP, None], (UP, [DOWN]), [Form()], [FIRST], [str(UP)]):
            self.check_word(InvalidBlock, "lanes", Block, Form(), value)

    def test_the_first_wrong_argument_is_named(self):
        self.check_word(InvalidBlock, "rounds", Block, 1, [])
        self.check_word(InvalidBlock, "rounds", Block, lanes=None, rounds=True)

    def test_equal_if_the_texts_are(self):
        blocks = [
            Block(rounds, lanes) for rounds in (Form(), Form(1, 1, 2))
            for lanes in ([UP], [DOWN], [UP, DOWN], [DOWN, UP], [UP, UP])
        ]
        for one in blocks:
            for other in blocks:
                self.assertEqual(one == other, str(one) == str(other))
                self.assertEqual(one != other, str(one) != str(other))
        self.assertEqual(Block(Form(2), [UP, DOWN]), Block(Form(2), (UP, DOWN)))

    def test_equal_to_nothing_else(self):
        for value in any_values() + [str(FIRST), UP, Plan([FIRST])]:
            if not isinstance(value, Block):
                self.assertFalse(FIRST == value)


class TestPlans(unittest.TestCase, ErrorChecks):
    def test_blocks(self):
        self.assertEqual(Plan().blocks, ())
        self.assertEqual(Plan([]).blocks, ())
        self.assertEqual(Plan([FIRST, SECOND]).blocks, (FIRST, SECOND))
        self.assertIsInstance(Plan([FIRST]).blocks, tuple)
        self.assertEqual(Plan(blocks=(FIRST,)).blocks, (FIRST,))

    def test_later_changes_have_no_effect(self):
        blocks = [FIRST]
        plan = Plan(blocks)
        blocks.append(SECOND)
        self.assertEqual(plan.blocks, (FIRST,))

    def test_no_sequence_of_blocks(self):
        for value in any_values() + [[FIRST, None], (UP,), FIRST, Plan([FIRST]), [Plan()], ONCE, [ONCE]]:
            if value not in ([], ()):
                with self.assertRaises(InvalidPlan):
                    Plan(value)

    def test_len(self):
        self.assertEqual([len(Plan()), len(Plan([FIRST])), len(Plan([FIRST, FIRST]))], [0, 1, 2])

    def test_index(self):
        plan = Plan([FIRST, SECOND, THIRD])
        self.assertEqual((plan[0], plan[1], plan[2]), (FIRST, SECOND, THIRD))

    def test_without(self):
        plan = Plan([FIRST, SECOND, THIRD])
        self.assertEqual(plan.without(0), Plan([SECOND, THIRD]))
        self.assertEqual(plan.without(at=1), Plan([FIRST, THIRD]))
        self.assertEqual(plan.without(2), Plan([FIRST, SECOND]))
        self.assertEqual(Plan([FIRST]).without(0), Plan())
        self.assertEqual(plan, Plan([FIRST, SECOND, THIRD]))

    def test_no_block(self):
        for blocks in ([], [FIRST], [FIRST, SECOND, THIRD]):
            plan = Plan(blocks)
            for at in (-1, -len(blocks), len(blocks), len(blocks) + 1, -10 ** 9, 10 ** 9):
                if at != 0 or not blocks:
                    self.check_at(NoBlock, at, plan.without, at)
                    self.check_at(NoBlock, at, lambda: plan[at])

    def test_true_and_false_are_no_numbers_of_blocks(self):
        plan = Plan([FIRST, SECOND])
        for at in (True, False):
            self.check_at(NoBlock, at, plan.without, at)
            self.check_at(NoBlock, at, lambda: plan[at])

    def test_add(self):
        one = Plan([FIRST, SECOND])
        other = Plan([THIRD])
        self.assertEqual((one + other).blocks, (FIRST, SECOND, THIRD))
        self.assertEqual((other + one).blocks, (THIRD, FIRST, SECOND))
        self.assertEqual(one + Plan(), one)
        self.assertEqual(Plan() + Plan(), Plan())
        self.assertEqual((one.blocks, other.blocks), ((FIRST, SECOND), (THIRD,)))

    def test_add_in_place_returns_a_new_one(self):
        plan = kept = Plan([FIRST])
        plan += Plan([SECOND])
        self.assertEqual(plan.blocks, (FIRST, SECOND))
        self.assertEqual(kept.blocks, (FIRST,))

    def test_add_anything_else(self):
        for value in any_values() + [FIRST, [FIRST], (FIRST,), ONCE]:
            if not isinstance(value, Plan):
                with self.assertRaises(TypeError):
                    Plan([FIRST]) + value
                with self.assertRaises(TypeError):
                    value + Plan([FIRST])

    def test_all_rounds(self):
        once, half = Plan.read(ONCE), Plan.read(HALF)
        self.assertEqual([once.all_rounds(n) for n in (1, 2, 3, 10)], [0, 2, 4, 18])
        self.assertEqual([half.all_rounds(n) for n in (1, 2, 3, 10)], [0, 2, 2, 10])
        self.assertEqual(once.all_rounds(n=5), 8)
        self.assertEqual(Plan().all_rounds(7), 0)

    def test_all_rounds_below_0_and_great(self):
        once = Plan.read(ONCE)
        self.assertEqual([once.all_rounds(n) for n in (0, -1, -10 ** 30)], [0, 0, 0])
        self.assertEqual(once.all_rounds(10 ** 30), 2 * 10 ** 30 - 2)
        self.assertEqual(Plan.read("rounds -n\nup + 0 add").all_rounds(-10 ** 30), 10 ** 30)

    def test_a_block_below_0_takes_nothing_away(self):
        plan = Plan.read("rounds n-4\nup + 0 add\nrounds 3\nup + 0 add\nrounds -2\nup + 0 add")
        self.assertEqual([plan.all_rounds(n) for n in (-1, 0, 3, 4, 5, 6)], [3, 3, 3, 3, 4, 5])

    def test_texts(self):
        self.assertEqual(str(Plan()), "")
        self.assertEqual(str(Plan([FIRST, THIRD])), "rounds n-1\nup - n-1 add\nrounds 3\ndown + 2 put")

    def test_read(self):
        self.assertEqual(Plan.read("").blocks, ())
        plan = Plan.read(text="rounds n-1\nup - n-1 add\nrounds (n)/2\ndown + 2 put\nup - n-1 add")
        self.assertEqual(plan.blocks, (FIRST, SECOND))
        for text in (ONCE, HALF, MIXED):
            self.assertEqual(str(Plan.read(text)), text)

    def test_no_texts(self):
        lane, rounds = "up - 0 add", "rounds n"
        cases = [
            (0, "\n"), (0, " "), (0, lane), (0, f"{lane}\n{rounds}\n{lane}"), (0, "Rounds n\n" + lane),
            (0, f"\n{rounds}\n{lane}"), (0, f"rounds\n{lane}"), (0, f"rounds \n{lane}"), (0, f"rounds  n\n{lane}"),
            (0, f" rounds n\n{lane}"), (0, f"rounds n \n{lane}"), (0, f"rounds 1n\n{lane}"),
            (0, f"rounds n n\n{lane}"), (0, f"rounds n+0\n{lane}"), (0, f"rounds (n)/1\n{lane}"),
            (1, rounds), (1, f"{rounds}\n{rounds}"), (1, f"{rounds}\n{rounds}\n{lane}"), (1, f"{rounds}\n"),
            (1, f"{rounds}\nup - 0"), (1, f"{rounds}\nup - 0 add put"), (1, f"{rounds}\nup -  0 add"),
            (1, f"{rounds}\n up - 0 add"), (1, f"{rounds}\nup - 0 add "), (1, f"{rounds}\nup - +3 add"),
            (1, f"{rounds}\nUp - 0 add"), (1, f"{rounds}\nup * 0 add"), (1, f"{rounds}\nup - 0 Add"),
            (1, f"{rounds}\nup-0 add"), (1, f"{rounds}\nleft - 0 add"), (1, f"{rounds}\nup - n+0 add\n{lane}"),
            (1, f"{rounds}\nup - 0\tadd"), (1, f"{rounds}\n- up 0 add"), (1, f"{rounds}\nrounds x"),
            (2, f"{rounds}\n{lane}\n"), (2, f"{rounds}\n{lane}\n\n{rounds}"), (2, f"{rounds}\n{lane}\nx"),
            (3, f"{rounds}\n{lane}\n{rounds}"), (3, f"{rounds}\n{lane}\n{rounds}\n{rounds}\n{lane}"),
            (3, f"{rounds}\n{lane}\n{lane}\nrounds (n)/0\n{lane}"), (4, f"{rounds}\n{lane}\n{lane}\n{rounds}"),
        ]
        for at, text in cases:
            with self.subTest(text):
                self.check_at(InvalidText, at, Plan.read, text)

    def test_equal_if_the_texts_are(self):
        plans = [Plan(), Plan([FIRST]), Plan([SECOND]), Plan([FIRST, SECOND]), Plan([SECOND, FIRST]), Plan.read(ONCE)]
        for one in plans:
            for other in plans:
                self.assertEqual(one == other, str(one) == str(other))
                self.assertEqual(one != other, str(one) != str(other))
        self.assertEqual(Plan.read(HALF), Plan.read(HALF))

    def test_equal_to_nothing_else(self):
        for value in any_values() + ["", (FIRST,), [FIRST], FIRST, str(Plan([FIRST]))]:
            if not isinstance(value, Plan):
                self.assertFalse(Plan([FIRST]) == value)
                self.assertFalse(Plan() == value)


if __name__ == "__main__":
    unittest.main()
