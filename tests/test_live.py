"""Promises [22] and [23]: live rings."""

import itertools
import unittest

from ringsums.errors import InvalidRows, Refused
from ringsums.live import Ring
from ringsums.plans import Plan
from ringsums.plays import Slip, play
from samples import (
    FAIR, HALF, MIXED, ONCE, TEXTS, ErrorChecks, any_values, nested, sample_rows, sendings, straight_course,
    straight_play,
)

ROWS = [[1, 2, 3, 4], [10, 20, 30, 40], [100, 200, 300, 400]]


class Oops(Exception):
    """Raised by some work."""


def state(ring):
    """Return all that there is to be seen of a ring, and what it would take back."""
    seen = [(ring.plan, ring.rows, ring.firsts, ring.done, ring.left, ring.is_right, len(ring))]
    with ring.trial():
        while ring.undo():
            seen.append((ring.plan, ring.rows, ring.firsts, ring.done, ring.left, ring.is_right, len(ring)))
    return seen


def fresh(text=ONCE, rows=tuple(ROWS)):
    """Return a ring with a plan, ahead of all rounds."""
    return Ring(Plan.read(text), rows)


def handed_on(plan, n, length, turn):
    """Return how many numbers all machines hand on in a round, one after another."""
    places = [(block, t) for block in plan.blocks for t in range(max(0, block.rounds(n)))]
    block, t = places[turn]
    count = 0
    for lane in block.lanes:
        for i in range(n):
            piece = (i + (t if lane.sign == "+" else -t) + lane.shift(n)) % n
            count += (piece + 1) * length // n - piece * length // n
    return count


class RingChecks(unittest.TestCase, ErrorChecks):
    def check_begun(self, ring, plan, rows):
        """A ring is ahead of all rounds."""
        rows = tuple(tuple(row) for row in rows)
        self.assertEqual((ring.plan, ring.rows, ring.firsts, ring.done), (plan, rows, rows, 0))
        self.assertEqual(ring.left, plan.all_rounds(len(rows)))
        self.assertIs(ring.is_right, Ring(plan, rows).is_right)

    def check_refused(self, at, ring, call, *args):
        """A call is refused, and nothing changes."""
        before = state(ring)
        self.check_at(Refused, at, call, *args)
        self.assertEqual(state(ring), before)


class TestNew(RingChecks):
    def test_ahead_of_all_rounds(self):
        plan = Plan.read(ONCE)
        ring = Ring(plan, ROWS)
        self.check_begun(ring, plan, ROWS)
        self.assertEqual((ring.left, ring.is_right, len(ring)), (4, False, 0))
        self.assertIs(ring.plan, plan)
        self.check_begun(Ring(rows=ROWS, plan=plan), plan, ROWS)

    def test_each_attribute_is_set_at_once(self):
        for name in ("plan", "rows", "firsts", "done", "left", "is_right"):
            self.assertIn(name, vars(fresh()))

    def test_right_at_first(self):
        self.assertIs(Ring(Plan(), [[7, 8]]).is_right, True)
        self.assertIs(Ring(Plan(), [[0], [0]]).is_right, True)
        self.assertIs(Ring(Plan(), [[], []]).is_right, True)
        self.assertIs(Ring(Plan(), [[0], [1]]).is_right, False)
        self.assertIs(Ring(Plan.read(HALF), [[5, -5], [0, 0]]).is_right, False)

    def test_rows_are_taken_over(self):
        rows = [[1, 2], [3, 4]]
        ring = Ring(Plan.read(ONCE), rows)
        rows[0][0] = 99
        rows.pop()
        self.check_begun(ring, Plan.read(ONCE), [[1, 2], [3, 4]])
        ring.step()
        ring.rest()
        self.assertEqual(ring.rows, ((4, 6), (4, 6)))
        self.assertEqual(ring.firsts, ((1, 2), (3, 4)))

    def test_tuples(self):
        ring = fresh()
        for _ in range(3):
            for told in (ring.rows, ring.firsts):
                self.assertEqual({thing.__class__ for thing in (told, *told)}, {tuple})
            ring.step()
        self.assertEqual({thing.__class__ for thing in (ring.rest(), *ring.rest())}, {tuple})

    def test_wrong_rows(self):
        for value in [*any_values(), nested(8), "12", {}]:
            # Of these, the first row is one.
            if value not in ([[1, 2], [3]], [[]], ((),)):
                self.check_at(InvalidRows, 0, Ring, Plan.read(ONCE), value)
        cases = [([[1, 2], [3]], 1), ([[1], [2], [3, 4], 5], 2), ([[1], 5], 1), ([[1], [True]], 1), ([[1], [None]], 1),
                 ([(1,), [2], "3"], 2), ([[True]], 0), ([[1, "2"]], 0), ([[], [], [1]], 2), ([[1], [[2]]], 1)]
        for rows, at in cases:
            self.check_at(InvalidRows, at, Ring, Plan.read(ONCE), rows)
            self.check_at(InvalidRows, at, Ring, Plan.read(ONCE), tuple(rows))

    def test_not_iterable(self):
        for walk in (iter, list, tuple, sorted, enumerate, lambda ring: 1 in ring):
            with self.assertRaises(TypeError):
                walk(fresh())


class TestStep(RingChecks):
    def test_all_rounds_one_by_one(self):
        for text in [*TEXTS.values(), FAIR]:
            plan = Plan.read(text)
            for n, length in ((1, 1), (1, 3), (2, 2), (2, 5), (3, 2), (3, 3), (4, 7), (5, 0)):
                rows = sample_rows(n, length)
                ring = Ring(plan, rows)
                course = straight_course(plan, rows)
                sums = tuple(sum(row[at] for row in rows) for at in range(length))
                with self.subTest(text, n=n, length=length):
                    for turn in range(len(course) - 1):
                        self.assertEqual((ring.done, ring.left), (turn, len(course) - 1 - turn))
                        self.assertEqual(ring.step(), handed_on(plan, n, length, turn))
                        self.assertEqual(ring.rows, course[turn + 1])
                        self.assertIs(ring.is_right, all(row == sums for row in course[turn + 1]))
                        self.assertEqual(len(ring), turn + 1)
                    self.assertEqual((ring.done, ring.left), (len(course) - 1, 0))
                    self.assertEqual(ring.firsts, tuple(tuple(row) for row in rows))
                    self.check_refused(-1, ring, ring.step)

    def test_as_a_play_tells(self):
        for text in [*TEXTS.values(), FAIR]:
            plan = Plan.read(text)
            for n in (1, 2, 3, 4):
                rows = sample_rows(n, 6)
                ring = Ring(plan, rows)
                count = sum(ring.step() for _ in range(ring.left))
                played = play(plan, rows)
                self.assertEqual((ring.rows, ring.is_right, count), (played.rows, played.is_right, sum(played.sent)))

    def test_with_slips(self):
        for text in (ONCE, HALF, MIXED):
            plan = Plan.read(text)
            rows = sample_rows(3, 5)
            chosen = sendings(plan, 3)[::3]
            slips = [Slip(("lost", "again")[at % 2], *sending) for at, sending in enumerate(chosen)]
            course = straight_course(plan, rows, slips)
            ring = Ring(plan, rows)
            for turn in range(len(course) - 1):
                now = [slip for slip in slips if slip.turn == turn]
                told = ring.step(tuple(now)) if turn % 2 else ring.step(slips=now[::-1])
                # A slip changes nothing in what is handed on.
                self.assertEqual(told, handed_on(plan, 3, 5, turn))
                self.assertEqual(ring.rows, course[turn + 1])
            self.assertEqual(ring.rows, play(plan, rows, slips).rows)

    def test_what_is_handed_on(self):
        self.assertEqual(fresh().step(), 4)
        self.assertEqual(fresh(HALF).step(), 8)
        self.assertEqual(fresh(ONCE, [[1], [2], [3], [4]]).step(), 1)
        self.assertEqual(fresh(ONCE, [[], []]).step(), 0)
        ring = fresh("rounds 1\nup - 0 add\nrounds 1\nup + 0 add\nup - 1 put\ndown + 0 add")
        self.assertEqual([ring.step(), ring.step()], [4, 12])

    def test_refused_slips(self):
        ring = fresh(HALF, [[1], [2], [3], [4]])
        good, other = Slip("lost", 1, 0, 0), Slip("again", 1, 3, 1)
        ring.step()
        wrong = [Slip("lost", 0, 0, 0), Slip("lost", 2, 0, 0), Slip("again", 1, 4, 0), Slip("lost", 1, 0, 2),
                 Slip("lost", 4, 0, 0), Slip("again", 10 ** 9, 10 ** 9, 10 ** 9), Slip("again", 1, 0, 0)]
        for slip in wrong:
            self.check_refused(1, ring, ring.step, [good, slip])
            self.check_refused(2, ring, ring.step, (good, other, slip, slip))
            self.check_refused(1, ring, ring.step, [good, slip, wrong[0]])
        for slip in wrong[:-1]:
            self.check_refused(0, ring, ring.step, [slip])
        self.check_refused(1, ring, ring.step, [good, good])
        self.assertEqual(ring.step([good, other]), 2)

    def test_no_round_any_more(self):
        for ring in (fresh(""), fresh("rounds n-3\nup - 0 add"), fresh("rounds -1\nup - 0 add")):
            self.check_refused(-1, ring, ring.step)
            self.check_refused(-1, ring, ring.step, [Slip("lost", 0, 0, 0)])
        ring = fresh()
        ring.rest()
        for slips in ((), [Slip("lost", 0, 0, 0)], [Slip("lost", 4, 9, 9)] * 2):
            self.check_refused(-1, ring, ring.step, slips)


class TestRest(RingChecks):
    def test_all_that_are_left(self):
        for text in [*TEXTS.values(), FAIR]:
            plan = Plan.read(text)
            for n in (1, 2, 3, 5):
                rows = sample_rows(n, 4)
                end = straight_play(plan, rows)
                for steps in range(plan.all_rounds(n) + 1):
                    ring = Ring(plan, rows)
                    for _ in range(steps):
                        ring.step()
                    self.assertEqual(ring.rest(), end)
                    self.assertEqual((ring.rows, ring.done, ring.left), (end, plan.all_rounds(n), 0))
                    self.assertEqual(len(ring), steps + 1)
                    self.assertIs(ring.is_right, play(plan, rows).is_right)

    def test_none_left(self):
        ring = fresh()
        rows = ring.rest()
        self.assertEqual(ring.rest(), rows)
        self.assertEqual((len(ring), ring.left), (2, 0))
        self.assertEqual((ring.undo(), ring.done, ring.undo(), ring.done, ring.undo()), (True, 4, True, 0, False))
        self.assertEqual(fresh("").rest(), tuple(tuple(row) for row in ROWS))

    def test_after_a_slip(self):
        ring = fresh(ONCE, [[1, 2], [10, 20]])
        ring.step([Slip("lost", 0, 0, 0)])
        self.assertEqual(ring.rest(), ((10, 22), (10, 22)))
        self.assertIs(ring.is_right, False)


class TestFall(RingChecks):
    def test_each_machine(self):
        rows = sample_rows(4, 5)
        for text in (ONCE, HALF, MIXED):
            plan = Plan.read(text)
            for steps in (0, 1, 3):
                for machine in range(4):
                    ring = Ring(plan, rows)
                    for _ in range(steps):
                        ring.step()
                    others = rows[:machine] + rows[machine + 1:]
                    self.assertIsNone(ring.fall(machine))
                    self.check_begun(ring, plan, others)
                    self.assertEqual(len(ring), steps + 1)
                    self.assertEqual(ring.rest(), play(plan, others).rows)

    def test_one_after_another(self):
        ring = fresh()
        ring.fall(0)
        self.check_begun(ring, Plan.read(ONCE), ROWS[1:])
        ring.step()
        ring.fall(machine=1)
        self.check_begun(ring, Plan.read(ONCE), [ROWS[1]])
        self.assertEqual((ring.left, ring.is_right), (0, True))
        self.check_refused(0, ring, ring.fall, 0)
        self.check_refused(1, ring, ring.fall, 1)
        self.assertEqual(len(ring), 3)

    def test_the_rounds_are_those_of_fewer_machines(self):
        ring = fresh("rounds n\nup - 0 add\nrounds -n+4\nup - 0 add")
        self.assertEqual(ring.left, 4)
        ring.fall(1)
        self.assertEqual((ring.left, ring.done), (4, 0))
        ring.fall(1)
        self.assertEqual(ring.left, 4)

    def test_no_machine(self):
        ring = fresh()
        ring.step()
        for value in [*any_values(), nested(8), 3, -1, -3, "0", (0,), [1]]:
            if value.__class__ is int and value in (0, 1, 2):
                continue
            before = state(ring)
            with self.assertRaises(Refused) as caught:
                ring.fall(value)
            self.assertIs(caught.exception.at, value)
            self.assertEqual(state(ring), before)

    def test_the_only_one(self):
        ring = fresh(ONCE, [[1, 2]])
        for value in (0, 1, True, None):
            self.check_refused(value, ring, ring.fall, value)


class TestChange(RingChecks):
    def test_amid_the_rounds(self):
        for steps in (0, 1, 4):
            ring = fresh()
            for _ in range(steps):
                ring.step()
            self.assertIsNone(ring.change(Plan.read(HALF)))
            self.check_begun(ring, Plan.read(HALF), ROWS)
            self.assertEqual(len(ring), steps + 1)
            self.assertEqual(ring.rest(), ((111, 222, 333, 444),) * 3)

    def test_after_a_fall(self):
        ring = fresh()
        ring.fall(1)
        ring.change(plan=Plan())
        self.check_begun(ring, Plan(), [ROWS[0], ROWS[2]])
        self.assertEqual((ring.left, ring.hopes()), (0, False))
        ring.change(Plan.read(ONCE))
        self.assertIs(ring.hopes(), True)

    def test_to_the_same_one(self):
        ring = fresh()
        ring.step()
        ring.change(ring.plan)
        self.check_begun(ring, Plan.read(ONCE), ROWS)
        self.assertEqual(len(ring), 2)


class TestHopes(RingChecks):
    def test_as_all_others_tell(self):
        for text in [*TEXTS.values(), FAIR]:
            plan = Plan.read(text)
            for n in (1, 2, 3, 4):
                ring = Ring(plan, sample_rows(n, 3))
                for _ in range(ring.left + 1):
                    before = state(ring)
                    self.assertIs(ring.hopes(), play(plan, sample_rows(n, 3)).is_right)
                    self.assertEqual(state(ring), before)
                    if ring.left > 0:
                        ring.step()

    def test_with_each_slip(self):
        for text in (ONCE, HALF, FAIR):
            plan = Plan.read(text)
            rows = sample_rows(4, 4)
            for kind, sending in itertools.product(("lost", "again"), sendings(plan, 4)):
                slip = Slip(kind, *sending)
                ring = Ring(plan, rows)
                for _ in range(slip.turn):
                    ring.step()
                ring.step([slip])
                self.assertIs(ring.hopes(), play(plan, rows, [slip]).is_right)
                hoped = ring.hopes()
                ring.rest()
                self.assertIs(hoped, ring.is_right)

    def test_a_lost_sending(self):
        ring = fresh(ONCE, [[1, 2], [10, 20]])
        self.assertIs(ring.hopes(), True)
        ring.step([Slip("lost", 0, 0, 0)])
        self.assertIs(ring.hopes(), False)
        ring.undo()
        # A put that comes twice does no harm.
        ring.step()
        ring.step([Slip("again", 1, 0, 0)])
        self.assertEqual((ring.hopes(), ring.is_right, ring.left), (True, True, 0))

    def test_right_now_but_not_in_the_end(self):
        ring = fresh(ONCE + "\nrounds 1\nup - 0 add")
        for _ in range(4):
            ring.step()
        self.assertEqual((ring.is_right, ring.hopes()), (True, False))
        ring.step()
        self.assertEqual((ring.is_right, ring.hopes()), (False, False))


class TestUndo(RingChecks):
    def deeds(self, ring):
        """Yield what can be done with a ring, one after another."""
        yield ring.step
        yield lambda: ring.step([Slip("lost", 1, 1, 0)])
        yield ring.rest
        yield ring.rest
        yield lambda: ring.change(Plan.read(HALF))
        yield ring.step
        yield lambda: ring.fall(2)
        yield lambda: ring.fall(0)
        yield ring.rest
        yield lambda: ring.change(Plan.read(MIXED))
        yield ring.step

    def test_one_by_one(self):
        ring = fresh()
        before = []
        for deed in self.deeds(ring):
            before.append(state(ring))
            deed()
            self.assertEqual(len(ring), len(before))
        while before:
            self.assertIs(ring.undo(), True)
            self.assertEqual(state(ring), before.pop())
        for _ in range(3):
            self.assertIs(ring.undo(), False)
            self.assertEqual(state(ring), state(fresh()))

    def test_done_again_after_it(self):
        ring = fresh()
        ring.step([Slip("again", 0, 0, 0)])
        ring.undo()
        ring.step()
        self.assertEqual(ring.rest(), ((111, 222, 333, 444),) * 3)
        self.assertEqual(len(ring), 2)
        for _ in range(2):
            ring.undo()
        self.check_begun(ring, Plan.read(ONCE), ROWS)

    def test_an_undo_is_no_deed(self):
        ring = fresh()
        ring.step()
        self.assertEqual((ring.undo(), len(ring), ring.undo(), len(ring)), (True, 0, False, 0))

    def test_at_the_limits(self):
        ring = Ring(Plan.read("rounds 199\nup - 0 add\ndown + 1 put\nup + 2 put"), sample_rows(10, 60))
        for _ in range(199):
            ring.step()
        ring.rest()
        self.assertEqual((len(ring), ring.left), (200, 0))
        self.assertEqual(ring.rows, play(ring.plan, sample_rows(10, 60)).rows)
        count = 0
        while ring.undo():
            count += 1
        self.assertEqual(count, 200)
        self.check_begun(ring, ring.plan, sample_rows(10, 60))

    def test_200_great_deeds(self):
        ring = Ring(Plan.read(ONCE), sample_rows(40, 60))
        for _ in range(20):
            ring.rest()
            ring.change(ring.plan)
        for _ in range(39):
            ring.fall(0)
        while len(ring) < 200:
            ring.rest()
        self.assertEqual(ring.rows, (tuple(sample_rows(40, 60)[39]),))
        for _ in range(200):
            self.assertIs(ring.undo(), True)
        self.assertIs(ring.undo(), False)
        self.check_begun(ring, Plan.read(ONCE), sample_rows(40, 60))


def do_nothing(ring):
    """Work that does nothing."""


def do_steps(ring):
    """Work that does rounds."""
    ring.step([Slip("lost", ring.done, 0, 0)])
    ring.rest()
    return ring.rows


def do_fall(ring):
    """Work that lets a machine fall out."""
    ring.fall(1)
    return len(ring)


def do_change(ring):
    """Work that changes the plan."""
    ring.change(Plan.read(HALF))
    ring.step()
    return ring.plan


def do_undo(ring):
    """Work that takes back all that there is, also from ahead of it."""
    count = 0
    while ring.undo():
        count += 1
    return count


def do_undo_and_go_on(ring):
    """Work that takes back, and then does otherwise."""
    ring.undo()
    ring.fall(2)
    ring.rest()
    return "done"


def do_further(ring):
    """Work that opens further trials within."""
    before = state(ring)
    told = [ring.within(work) for work in (do_steps, do_fall, do_undo)]
    assert state(ring) == before
    ring.rest()
    with ring.trial() as same:
        assert same is ring
        do_undo(ring)
    ring.fall(0)
    return told


ALL_WORK = (do_nothing, do_steps, do_fall, do_change, do_undo, do_undo_and_go_on, do_further)


class TestTrial(RingChecks):
    def rings(self):
        """Return rings in several states."""
        rings = [fresh(), fresh(HALF), fresh(MIXED, [*ROWS, [5, 6, 7, 8]]), fresh()]
        rings[1].step()
        rings[2].step()
        rings[2].fall(0)
        rings[2].change(Plan.read(ONCE))
        rings[3].step([Slip("again", 0, 0, 0)])
        rings[3].step()
        return rings

    def test_as_it_was(self):
        for work in ALL_WORK:
            for ring in self.rings():
                before = state(ring)
                with ring.trial() as held:
                    self.assertIs(held, ring)
                    self.assertEqual(state(ring), before)
                    work(ring)
                self.assertEqual(state(ring), before)

    def test_within(self):
        for work in ALL_WORK:
            for ring in self.rings():
                before = state(ring)
                told = ring.within(work=work)
                self.assertEqual(state(ring), before)
                self.assertEqual(ring.within(work), told)
                self.assertEqual(work(ring), told)

    def test_what_work_is_called_with(self):
        ring = fresh()
        self.assertIs(ring.within(lambda held: held), ring)
        self.assertEqual(ring.within(len), 0)
        self.assertIsNone(ring.within(do_nothing))

    def test_an_error_goes_on(self):
        for work in ALL_WORK:
            for error in (Oops, KeyError, StopIteration, Refused(7)):
                ring = fresh()
                ring.step()
                before = state(ring)

                def fail(held):
                    work(held)
                    raise error

                with self.assertRaises(Exception) as caught:
                    ring.within(fail)
                self.assertTrue(caught.exception is error or caught.exception.__class__ is error)
                self.assertEqual(state(ring), before)
                with self.assertRaises(Exception) as caught:
                    with ring.trial():
                        fail(ring)
                self.assertTrue(caught.exception is error or caught.exception.__class__ is error)
                self.assertEqual(state(ring), before)

    def test_what_the_ring_refuses(self):
        ring = fresh()
        ring.rest()
        before = state(ring)
        with self.assertRaises(Refused) as caught:
            with ring.trial():
                ring.fall(0)
                ring.fall(9)
        self.assertEqual(caught.exception.at, 9)
        self.assertEqual(state(ring), before)

    def test_left_by_return_and_break(self):
        ring = fresh()

        def leave():
            with ring.trial():
                return ring.rest()

        self.assertEqual(leave(), ((111, 222, 333, 444),) * 3)
        for _ in range(2):
            with ring.trial():
                ring.step()
                break
        self.check_begun(ring, Plan.read(ONCE), ROWS)
        self.assertEqual(len(ring), 0)

    def test_as_it_was_when_it_was_entered(self):
        ring = fresh()
        trial = ring.trial()
        self.assertIsNot(trial, ring.trial())
        ring.step()
        before = state(ring)
        with trial:
            ring.undo()
            ring.fall(0)
        self.assertEqual(state(ring), before)
        self.assertEqual(len(ring), 1)

    def test_nested(self):
        ring = fresh()
        ring.step()
        outer = state(ring)
        with ring.trial():
            ring.undo()
            ring.fall(1)
            inner = state(ring)
            with ring.trial():
                ring.undo()
                ring.change(Plan())
                with self.assertRaises(Oops):
                    with ring.trial():
                        ring.undo()
                        raise Oops
                self.assertEqual((ring.plan, len(ring)), (Plan(), 1))
            self.assertEqual(state(ring), inner)
        self.assertEqual(state(ring), outer)

    def test_what_can_be_taken_back_then(self):
        ring = fresh()
        ring.step()
        ring.fall(0)
        ring.within(do_undo)
        self.assertEqual((len(ring), ring.undo(), len(ring.rows), ring.undo(), ring.undo()), (2, True, 3, True, False))

    def test_a_trial_is_no_deed(self):
        ring = fresh()
        with ring.trial():
            pass
        ring.within(do_nothing)
        self.assertEqual((len(ring), ring.undo()), (0, False))


if __name__ == "__main__":
    unittest.main()
