"""Promise [21]: the fewest rounds for one piece, and schedules."""

import itertools
import unittest

from ringsums.fewest import fewest, schedule, schedule_holds
from samples import any_values, examples_outcome, nested

# As they stand in section 12 of the document.
EXAMPLES = r'''
    >>> from ringsums.fewest import fewest, schedule, schedule_holds
    >>> fewest(3, 1), fewest(3, 2), fewest(2, 2), fewest(1, 1), len(schedule(3, 1))
    (4, 2, 1, 0, 4)

    >>> schedule_holds(2, 2, (((0, "up", "add"), (1, "down", "add")),)), schedule_holds(2, 1, (((0, "up", "add"),),))
    (True, False)
'''

ASKED = [(n, ways) for n in (1, 2, 3) for ways in (1, 2)]
KNOWN = {(1, 1): 0, (1, 2): 0, (2, 1): 2, (2, 2): 1, (3, 1): 4, (3, 2): 2}

# The usual one for three machines: up and added, then up and put down.
THREE = (((0, "up", "add"),), ((1, "up", "add"),), ((2, "up", "put"),), ((0, "up", "put"),))
TWO = (((0, "up", "add"), (1, "down", "add")),)


def counts_after(n, turns):
    """Return how often each number is in each sum after rounds, number by number, as the document tells it."""
    sums = [{machine: 1} for machine in range(n)]
    for turn in turns:
        read = [dict(sums[machine]) for machine, _, _ in turn]
        for came, (machine, way, deed) in zip(read, turn):
            goal = (machine + (1 if way == "up" else n - 1)) % n
            own = sums[goal] if deed == "add" else {}
            sums[goal] = {source: own.get(source, 0) + came.get(source, 0) for source in range(n)}
    return sums


def is_right(n, turns):
    """Tell whether each machine has each number once after rounds."""
    return all(counts.get(source, 0) == 1 for counts in counts_after(n, turns) for source in range(n))


def all_turns(n, ways):
    """Return all rounds there are."""
    ups = [(machine, "up", deed) for machine in range(n) for deed in ("add", "put")]
    if ways == 1:
        return [(hop,) for hop in ups]
    downs = [(machine, "down", deed) for machine in range(n) for deed in ("add", "put")]
    return [(hop,) for hop in ups + downs] + list(itertools.product(ups, downs))


def changed(value, place, thing):
    """Return a tuple of tuples with another thing at a place (a list of indexes)."""
    if place == []:
        return thing
    at, *others = place
    return value[:at] + (changed(value[at], others, thing),) + value[at + 1:]


class TestExamples(unittest.TestCase):
    def test_section_12(self):
        self.assertEqual(examples_outcome(EXAMPLES, "section 12"), (0, 3))


class TestFewest(unittest.TestCase):
    def test_known(self):
        for (n, ways), count in KNOWN.items():
            self.assertEqual(fewest(n, ways), count)
            self.assertEqual(fewest(ways=ways, n=n), count)

    def test_none_is_right_with_fewer(self):
        for n, ways in ASKED:
            turns = all_turns(n, ways)
            for count in range(KNOWN[n, ways]):
                for tried in itertools.product(turns, repeat=count):
                    self.assertFalse(is_right(n, tried))

    def test_all_schedules_that_there_are(self):
        # For few rounds, what is right is told just as by counting.
        for n, ways, most in ((1, 1, 3), (1, 2, 2), (2, 1, 4), (2, 2, 2), (3, 1, 4), (3, 2, 2)):
            for count in range(most + 1):
                for tried in itertools.product(all_turns(n, ways), repeat=count):
                    self.assertIs(schedule_holds(n, ways, tried), is_right(n, tried))


class TestSchedule(unittest.TestCase):
    def test_right_with_so_few_rounds(self):
        for n, ways in ASKED:
            told = schedule(n, ways)
            self.assertEqual(len(told), KNOWN[n, ways])
            self.assertTrue(is_right(n, told))
            self.assertIs(schedule_holds(n, ways, told), True)
            self.assertTrue(all(turn in all_turns(n, ways) for turn in told))
            self.assertEqual(schedule(ways=ways, n=n), told)

    def test_no_round_can_be_left_out_or_come_twice(self):
        for n, ways in ASKED:
            told = schedule(n, ways)
            for at in range(len(told)):
                self.assertIs(schedule_holds(n, ways, told[:at] + told[at + 1:]), False)
                twice = told[:at + 1] + told[at:]
                self.assertIs(schedule_holds(n, ways, twice), is_right(n, twice))

    def test_tuples(self):
        for n, ways in ASKED:
            told = schedule(n, ways)
            things = [told, *told, *[hop for turn in told for hop in turn]]
            self.assertEqual({thing.__class__ for thing in things}, {tuple})


class TestHolds(unittest.TestCase):
    def test_right_ones(self):
        self.assertIs(schedule_holds(3, 1, THREE), True)
        self.assertIs(schedule_holds(3, 2, THREE), True)
        self.assertIs(schedule_holds(2, 2, TWO), True)
        self.assertIs(schedule_holds(value=THREE, ways=1, n=3), True)
        # A single hop may have either way.
        down = tuple(((-machine % 3, "down", deed),) for ((machine, _, deed),) in THREE)
        self.assertIs(schedule_holds(3, 2, down), True)
        self.assertIs(schedule_holds(3, 1, down), False)

    def test_more_rounds_than_needed(self):
        self.assertIs(schedule_holds(3, 1, THREE + (THREE[3],)), True)
        self.assertIs(schedule_holds(3, 1, THREE + (THREE[0],)), False)
        # What was doubled is put right again.
        self.assertIs(schedule_holds(3, 1, THREE + (((0, "up", "add"),), ((0, "up", "put"),))), True)
        self.assertIs(schedule_holds(3, 1, THREE + (((0, "up", "add"),),) * 200 + (((0, "up", "put"),),)), True)
        self.assertIs(schedule_holds(3, 1, THREE + (((0, "up", "add"),),) * 200), False)

    def test_more_machines(self):
        for n in (4, 5, 7):
            up = [((machine, "up", "add"),) for machine in range(n - 1)]
            put = [((machine % n, "up", "put"),) for machine in range(n - 1, 2 * n - 2)]
            self.assertIs(schedule_holds(n, 1, tuple(up + put)), True)
            self.assertIs(schedule_holds(n, 1, tuple(up + put[:-1])), False)
            self.assertIs(schedule_holds(n, 1, tuple(put + up)), False)

    def test_one_machine_alone(self):
        self.assertIs(schedule_holds(1, 1, ()), True)
        self.assertIs(schedule_holds(1, 1, (((0, "up", "put"),),)), True)
        self.assertIs(schedule_holds(1, 2, (((0, "up", "put"), (0, "down", "put")),)), True)
        self.assertIs(schedule_holds(1, 1, (((0, "up", "add"),),)), False)
        self.assertIs(schedule_holds(1, 1, (((0, "up", "add"),), ((0, "up", "put"),))), False)

    def test_none(self):
        self.assertEqual([schedule_holds(n, ways, ()) for n, ways in ASKED], [n == 1 for n, _ in ASKED])

    def test_read_ahead_of_all_that_comes(self):
        # One after the other, the first one's own number would come back to it.
        self.assertIs(schedule_holds(2, 2, TWO), True)
        self.assertIs(schedule_holds(2, 2, (TWO[0][:1], TWO[0][1:])), False)

    def test_done_one_after_another(self):
        # Both come to machine 1: the first is overwritten, or the other one is added to what was put.
        front = (((0, "up", "add"), (2, "down", "add")),)
        self.assertIs(schedule_holds(3, 2, front + (((1, "up", "put"), (1, "down", "put")),)), True)
        self.assertEqual(counts_after(3, (((0, "up", "put"), (2, "down", "add")),))[1], {0: 1, 1: 0, 2: 1})
        last = (((1, "up", "put"), (1, "down", "put")),)
        for turn in (((0, "up", "put"), (2, "down", "add")), ((0, "up", "add"), (2, "down", "put"))):
            self.assertIs(schedule_holds(3, 2, (turn,) + last), False)
        tried = (((0, "up", "add"),), ((1, "up", "add"),), ((1, "up", "put"), (0, "down", "add")))
        self.assertIs(schedule_holds(3, 2, tried), is_right(3, tried))

    def test_rounds_exchanged(self):
        for order in itertools.permutations(range(4)):
            tried = tuple(THREE[at] for at in order)
            self.assertIs(schedule_holds(3, 1, tried), is_right(3, tried))
        self.assertIs(schedule_holds(3, 1, THREE[::-1]), False)

    def test_a_hop_otherwise(self):
        for at in range(4):
            for hop in itertools.product(range(3), ("up", "down"), ("add", "put")):
                tried = changed(THREE, [at, 0], hop)
                self.assertIs(schedule_holds(3, 2, tried), is_right(3, tried))
                self.assertIs(schedule_holds(3, 1, tried), hop[1] == "up" and is_right(3, tried))

    def test_forms_of_rounds(self):
        up, down = TWO[0]
        self.assertIs(schedule_holds(2, 2, ((down, up),)), False)
        self.assertIs(schedule_holds(2, 2, ((up, up),)), False)
        self.assertIs(schedule_holds(2, 2, ((up, down, up),)), False)
        self.assertIs(schedule_holds(2, 1, TWO), False)
        self.assertIs(schedule_holds(2, 2, TWO + ((),)), False)
        self.assertIs(schedule_holds(1, 2, ((),)), False)
        # Right but for its form, for one machine alone.
        put_up, put_down = (0, "up", "put"), (0, "down", "put")
        for turn in ((put_up, put_up), (put_down, put_up), (put_down, put_down), (put_up, put_down, put_down)):
            self.assertIs(schedule_holds(1, 2, (turn,)), False)
        self.assertIs(schedule_holds(1, 1, ((put_down,),)), False)
        self.assertIs(schedule_holds(1, 1, ((put_up, put_down),)), False)

    def test_numbers_of_machines(self):
        for machine in (-1, 3, 10 ** 9, -3, True, False, "0", None, (0,), 0.0):
            for at in range(4):
                self.assertIs(schedule_holds(3, 1, changed(THREE, [at, 0, 0], machine)), False)
        # True is no number, though it is equal to one.
        with_true = tuple(((True if machine == 1 else machine, way, deed),) for ((machine, way, deed),) in THREE)
        self.assertEqual(with_true, THREE)
        self.assertIs(schedule_holds(3, 1, with_true), False)

    def test_lists_in_the_place_of_tuples(self):
        self.assertIs(schedule_holds(3, 1, list(THREE)), False)
        for at in range(4):
            self.assertIs(schedule_holds(3, 1, changed(THREE, [at], list(THREE[at]))), False)
            self.assertIs(schedule_holds(3, 1, changed(THREE, [at, 0], list(THREE[at][0]))), False)
        self.assertIs(schedule_holds(1, 1, []), False)

    def test_any_values(self):
        for value in [*any_values(), nested(8), "up", "add", ("up",), ((0, "up", "add"),), (((0, "up"),),),
                      (((0, "up", "put", 0),),), ("up", "add", 0), (((0, "Up", "put"),),), (((0, "up", "puts"),),),
                      (((0, "put", "up"),),), (("0up",),), ((("0", "up", "put"),),)]:
            self.assertIs(schedule_holds(1, 1, value), value == ())
            self.assertIs(schedule_holds(1, 2, value), value == ())
            self.assertIs(schedule_holds(3, 1, value), False)
            for place in ([0], [3], [0, 0], [2, 0], [1, 0, 1], [1, 0, 2]):
                tried = changed(THREE, place, value)
                self.assertIs(schedule_holds(3, 1, tried), tried == THREE)

    def test_at_the_limits(self):
        # Long ones, in which numbers are doubled again and again.
        self.assertIs(schedule_holds(3, 2, (((0, "up", "add"), (2, "down", "add")),) * 500), False)


if __name__ == "__main__":
    unittest.main()
