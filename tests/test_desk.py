"""Promises [24] and [25]: desks."""

import unittest

from ringsums.deciding import bound_of, right, shows
from ringsums.desk import Desk
from ringsums.errors import InvalidCommand, InvalidRows, InvalidText, Refused
from ringsums.plans import Plan
from ringsums.plays import Slip, play
from samples import FAIR, HALF, MIXED, ONCE, TEXTS, ErrorChecks, any_values, examples_outcome, nested

# As they stand in section 14 of the document.
EXAMPLES = r'''
    >>> from ringsums.desk import Desk
    >>> desk = Desk()
    >>> desk.say("plan " + str(once).replace("\n", " ; ")), desk.say("rows 1,2 10,20"), desk.say("round"), desk.say("rest"), desk.say("shows lacking")
    ('2', '2', '2', '11,22 11,22', 'never')
'''


def command_for(text):
    """Return the command that keeps the plan with a text."""
    return "plan " + text.replace("\n", " ; ")


def desk_with(*commands):
    """Return a desk that has done commands."""
    desk = Desk()
    for command in commands:
        desk.say(command)
    return desk


def state(desk):
    """Return all that there is to be seen of a desk and its ring."""
    ring = desk.ring
    if ring is None:
        return desk.plan, None
    seen = []
    with ring.trial():
        while True:
            seen.append((ring.plan, ring.rows, ring.firsts, ring.done, ring.left, ring.is_right, len(ring)))
            if not ring.undo():
                return desk.plan, ring, seen


def stages():
    """Return desks with nothing, with a plan, with a ring, and with a ring that is done."""
    plan, rows = command_for(ONCE), "rows 1,2 10,20 100,200"
    return [desk_with(), desk_with(plan), desk_with(plan, rows), desk_with(plan, rows, "round", "fall 1", "rest")]


class DeskChecks(unittest.TestCase, ErrorChecks):
    def check_raises(self, error, desk, command):
        """A command raises an error, and nothing changes."""
        before = state(desk)
        with self.assertRaises(error) as caught:
            desk.say(command)
        self.assertIs(caught.exception.__class__, error)
        self.assertEqual(state(desk), before)
        if before[1] is not None:
            self.assertIs(desk.ring, before[1])

    def check_at_raises(self, error, at, desk, command):
        """A command raises an error that keeps at, and nothing changes."""
        before = state(desk)
        self.check_at(error, at, desk.say, command)
        self.assertEqual(state(desk), before)


class TestExamples(unittest.TestCase):
    def test_section_14(self):
        self.assertEqual(examples_outcome(EXAMPLES, "section 14"), (0, 3))


class TestCommands(DeskChecks):
    def test_new(self):
        desk = Desk()
        self.assertEqual((desk.plan, desk.ring), (None, None))
        self.assertEqual(set(vars(desk)) >= {"plan", "ring"}, True)

    def test_many_in_a_row(self):
        desk = Desk()
        said = [
            (command_for(HALF), "2"), ("bound", "200"), ("right", "- from 1 of 2: 1"), ("shows doubled", "2 0 1"),
            ("shows lacking", "never"), ("rows 1,2,3 10,20,30 100,200,300", "3"), ("undo", "nothing"), ("round", "6"),
            ("round", "6"), ("undo", "undone"), ("rest", "111,222,333 111,222,333 111,222,333"),
            ("rest", "111,222,333 111,222,333 111,222,333"), ("undo", "undone"), ("undo", "undone"),
            ("undo", "undone"), ("undo", "nothing"),
            ("fall 1", "fallen"), ("rest", "201,204,306 201,204,306"), ("fall 0", "fallen"), ("rest", "100,200,300"),
            ("undo", "undone"), ("undo", "undone"), ("undo", "undone"), ("rest", "201,204,306 201,204,306"),
            ("rows 5", "1"), ("rest", "5"), ("rows 1 -2", "2"), ("round", "2"), ("rows 7 8 9", "3"),
            (command_for(ONCE), "2"), ("right", "- from 1 of 1: 0"), ("bound", "42"), ("rows 0,-5 7,8", "2"),
            ("round", "2"), ("round", "2"), ("undo", "undone"), ("rest", "7,3 7,3"),
        ]
        for command, told in said:
            with self.subTest(command):
                answer = desk.say(command)
                self.assertEqual((answer, answer.__class__), (told, str))

    def test_by_name(self):
        desk = Desk()
        self.assertEqual(desk.say(command=command_for(ONCE)), "2")
        self.assertEqual(desk.say(command="rows 1 2"), "2")

    def test_plan(self):
        for text in [*TEXTS.values(), FAIR]:
            if text != "":
                desk = Desk()
                self.assertEqual(desk.say(command_for(text)), str(len(Plan.read(text))))
                self.assertEqual(desk.plan, Plan.read(text))
                self.assertIsNone(desk.ring)

    def test_a_new_plan_with_a_ring_there(self):
        desk = desk_with(command_for(ONCE), "rows 1 2 3", "round")
        self.assertEqual(desk.say(command_for(HALF)), "2")
        self.assertEqual((desk.plan, desk.ring), (Plan.read(HALF), None))
        for command in ("round", "rest", "fall 0", "undo"):
            self.check_raises(InvalidCommand, desk, command)

    def test_rows(self):
        desk = desk_with(command_for(ONCE))
        for words, rows in (("1", ((1,),)), ("1,-2,0 30,4,555555", ((1, -2, 0), (30, 4, 555555))),
                            ("0 0 0", ((0,),) * 3), ("-999999 999999", ((-999999,), (999999,)))):
            self.assertEqual(desk.say(f"rows {words}"), str(len(rows)))
            ring = desk.ring
            self.assertEqual((ring.plan, ring.rows, ring.done, len(ring)), (desk.plan, rows, 0, 0))

    def test_new_rows_with_a_ring_there(self):
        desk = desk_with(command_for(ONCE), "rows 1 2 3", "round", "round")
        old = desk.ring
        self.assertEqual(desk.say("rows 5,6 7,8"), "2")
        self.assertIsNot(desk.ring, old)
        self.assertEqual((desk.ring.firsts, len(desk.ring), desk.plan), (((5, 6), (7, 8)), 0, Plan.read(ONCE)))
        self.assertEqual((old.done, len(old)), (2, 2))
        self.assertEqual(desk.say("undo"), "nothing")

    def test_round_and_rest(self):
        for text in (ONCE, HALF, MIXED, FAIR):
            plan = Plan.read(text)
            desk = desk_with(command_for(text), "rows 1,2,3,4,5 10,20,30,40,50 -1,-2,-3,-4,-5")
            played = play(plan, desk.ring.rows)
            counts = []
            while desk.ring.left > 1:
                counts.append(int(desk.say("round")))
            counts.append(5 * len(plan[len(plan) - 1].lanes))
            self.assertEqual(sum(counts), sum(played.sent))
            told = " ".join(",".join(str(number) for number in row) for row in played.rows)
            self.assertEqual(desk.say("rest"), told)
            self.assertEqual(desk.ring.rows, played.rows)

    def test_the_rest_can_be_said_again_as_rows(self):
        desk = desk_with(command_for(ONCE), "rows 1,-2 10,20")
        told = desk.say("rest")
        self.assertEqual(told, "11,18 11,18")
        desk.say(f"rows {told}")
        self.assertEqual(desk.say("rest"), "22,36 22,36")

    def test_the_ring_is_one_for_all(self):
        desk = desk_with(command_for(ONCE), "rows 1,2 10,20")
        desk.ring.step([Slip("lost", 0, 0, 0)])
        self.assertEqual(desk.say("rest"), "10,22 10,22")
        self.assertEqual((desk.ring.rows, len(desk.ring)), (((10, 22), (10, 22)), 2))

    def test_what_a_plan_is_asked(self):
        for text in [*TEXTS.values(), FAIR]:
            if text != "":
                desk, plan = desk_with(command_for(text)), Plan.read(text)
                self.assertEqual(desk.say("right"), str(right(plan)))
                self.assertEqual(desk.say("bound"), str(bound_of(plan)))
                for fault in ("doubled", "lacking"):
                    found = shows(plan, fault)
                    told = "never" if found is None else "{} {} {}".format(*found)
                    self.assertEqual(desk.say(f"shows {fault}"), told)
                self.assertEqual((desk.plan, desk.ring), (plan, None))

    def test_asking_leaves_the_ring_as_it_is(self):
        desk = desk_with(command_for(HALF), "rows 1 2 3", "round")
        before = state(desk)
        for command in ("right", "shows doubled", "shows lacking", "bound"):
            self.assertEqual(desk.say(command), desk.say(command))
            self.assertEqual(state(desk), before)

    def test_two_desks(self):
        one, other = desk_with(command_for(ONCE), "rows 1 2"), desk_with(command_for(HALF), "rows 5 6 7")
        self.assertEqual((one.say("round"), other.say("round")), ("1", "2"))
        one.say("fall 0")
        self.assertEqual((one.say("rest"), other.say("rest"), Desk().plan), ("2", "18 18 18", None))
        self.assertEqual((one.say("bound"), other.say("bound")), ("42", "200"))

    def test_not_iterable(self):
        for walk in (iter, list, len, lambda desk: 1 in desk):
            with self.assertRaises(TypeError):
                walk(Desk())


class TestNoCommand(DeskChecks):
    def test_any_values(self):
        for desk in stages():
            for value in [*any_values(), nested(8), b"right", ["right"], ("right",), 5.0]:
                self.check_raises(InvalidCommand, desk, value)

    def test_no_word_of_a_command(self):
        for desk in stages():
            for command in ("say", "Right", "RIGHT", "rights", "righ", "plans rounds n", "row 1", "falls 1", "steps",
                            "1", "rounds n ; up - 0 add", ";", "right;", "undo\tnow", "undone", "left", "is_right"):
                self.check_raises(InvalidCommand, desk, command)

    def test_empty_words_and_newlines(self):
        for desk in stages():
            for command in ("right", "bound", "round", "rest", "undo", "fall 0", "shows doubled", "rows 1 2",
                            command_for(ONCE)):
                for wrong in (f" {command}", f"{command} ", f"{command}  ", f"{command}\n", f"\n{command}",
                              command.replace(" ", "  ") if " " in command else f"  {command}",
                              command.replace(" ", "\n") if " " in command else f"{command}\n\n"):
                    self.check_raises(InvalidCommand, desk, wrong)
            self.check_raises(InvalidCommand, desk, "plan rounds n ;  ; up - 0 add")
            self.check_raises(InvalidCommand, desk, "plan rounds n\nup - 0 add")
            self.check_raises(InvalidCommand, desk, "rows 1\n2")

    def test_a_word_more_or_less(self):
        for desk in stages():
            for command in ("plan", "rows", "fall", "shows", "round 1", "rest 0", "undo undo", "right right", "bound 1",
                            "fall 0 0", "fall 0 1", "shows doubled lacking", "shows doubled 1", "round round",
                            "right doubled", "rest ;"):
                self.check_raises(InvalidCommand, desk, command)

    def test_integers(self):
        wrong = ("+1", "01", "-01", "-0", "00", "1.0", "1_0", "0x1", "1e1", "--1", "-", "+", "one", "", "1234567",
                 "-1234567", "0000001", "9" * 1000, "\t1", "1\t", "\u0661", "\u00b2", "True", "None", "1;", "(1)")
        for desk in stages():
            for word in wrong:
                self.check_raises(InvalidCommand, desk, f"fall {word}")
                for rows in (word, f"1 {word}", f"{word} 1", f"1,{word} 1,2", f"1,2 {word},1", f"{word},{word}"):
                    self.check_raises(InvalidCommand, desk, f"rows {rows}")
            for rows in (",", "1,", ",1", "1,,2", "1,2, 3,4", "1;2", "1, 2"):
                self.check_raises(InvalidCommand, desk, f"rows {rows}")

    def test_faults(self):
        for desk in stages():
            for word in ("right", "Doubled", "double", "doubled,lacking", "lack", "1", "faults", "never", ";"):
                self.check_raises(InvalidCommand, desk, f"shows {word}")

    def test_no_plan(self):
        for command in ("rows 1 2", "rows 1,2 3", "right", "shows doubled", "shows lacking", "bound"):
            self.check_raises(InvalidCommand, Desk(), command)

    def test_no_ring(self):
        for desk in stages()[:2]:
            for command in ("round", "rest", "fall 0", "fall 99", "fall -1", "undo"):
                self.check_raises(InvalidCommand, desk, command)


class TestOtherErrors(DeskChecks):
    def test_texts(self):
        for desk in stages():
            for text, at in (("n", 0), ("rounds", 0), ("rounds n", 1), ("rounds 1n ; up - 0 add", 0), (";", 0),
                             ("; ;", 0), ("rounds n ; up - 0 add ; x", 2), ("up - 0 add ; rounds n", 0),
                             ("rounds n ; rounds n ; up - 0 add", 1), ("rounds n ; up - 0 add ; rounds 2", 3),
                             ("rounds n ; up - 0 add ;", 1), ("; rounds n ; up - 0 add", 0),
                             ("rounds n; up - 0 add", 0), ("rounds n ; up - +1 add", 1),
                             ("rounds n ; ; up - 0 add", 1), ("never", 0)):
                self.check_at_raises(InvalidText, at, desk, f"plan {text}")

    def test_newlines_from_left_to_right(self):
        # In the middle of three signs, the second one has no space of its own on the left.
        desk = Desk()
        self.check_at_raises(InvalidText, 1, desk, "plan rounds n ; ; ; up - 0 add")
        self.assertEqual(desk.say("plan rounds n ; up - 0 add ; down + 1 put"), "1")
        self.assertEqual(str(desk.plan), "rounds n\nup - 0 add\ndown + 1 put")

    def test_rows(self):
        for desk in stages()[1:]:
            self.check_at_raises(InvalidRows, 1, desk, "rows 1,2 3")
            self.check_at_raises(InvalidRows, 2, desk, "rows 1,2 3,4 5,6,7 8")
            self.check_at_raises(InvalidRows, 3, desk, "rows 1 2 3 4,5")

    def test_no_round_any_more(self):
        desk = desk_with(command_for(ONCE), "rows 1 2", "rest")
        self.check_at_raises(Refused, -1, desk, "round")
        desk.say("undo")
        self.assertEqual(desk.say("round"), "1")
        desk = desk_with("plan rounds n-1 ; up - 0 add", "rows 1")
        self.check_at_raises(Refused, -1, desk, "round")
        self.assertEqual(desk.say("rest"), "1")

    def test_no_machine(self):
        desk = desk_with(command_for(ONCE), "rows 1 2 3", "round")
        for machine in (3, -1, 999999, -999999):
            self.check_at_raises(Refused, machine, desk, f"fall {machine}")
        desk.say("fall 2")
        self.check_at_raises(Refused, 2, desk, "fall 2")
        desk.say("fall 0")
        for machine in (0, 1):
            self.check_at_raises(Refused, machine, desk, f"fall {machine}")


class TestLimits(DeskChecks):
    def test_a_long_command(self):
        rows = " ".join(["-123456,123456"] * 40)
        desk = desk_with(command_for(ONCE), f"rows {rows}")
        self.assertEqual(desk.say("rest"), " ".join([f"{-123456 * 40},{123456 * 40}"] * 40))

    def test_a_great_plan(self):
        desk = desk_with("plan rounds 4n ; up - (n)/2 add ; down + 0 add ; up - 1 add ; down + 2 put")
        self.assertEqual((desk.say("bound"), desk.say("right")), ("400", "1"))
        self.assertEqual(desk.say("shows lacking").split(" ")[0], "2")


if __name__ == "__main__":
    unittest.main()
