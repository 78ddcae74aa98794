"""Promise [12]: suspects."""

import unittest

from ringsums.errors import InvalidRows
from ringsums.plans import Plan
from ringsums.plays import Slip, play, suspects
from samples import HALF, MIXED, ONCE, ErrorChecks, sample_rows, sendings, straight_play

TEXTS = (
    ONCE, HALF, MIXED, "rounds 2\nup - 0 put\ndown + 1 put\nup - 0 add", "rounds 3\ndown - 1 add\nup + 0 add", "",
)


def straight_suspects(plan, rows, seen):
    """Return the suspects by a play for each slip there can be."""
    return tuple(
        Slip(kind, *sending) for sending in sendings(plan, len(rows)) for kind in ("again", "lost")
        if straight_play(plan, rows, [Slip(kind, *sending)]) == tuple(tuple(row) for row in seen)
    )


class TestSuspects(unittest.TestCase, ErrorChecks):
    def test_told_back_from_the_wrong_sums(self):
        plan = Plan.read(ONCE)
        rows = [[1, 2], [10, 20]]
        self.assertEqual(suspects(plan, rows, [[10, 22], [10, 22]]), (Slip("lost", 0, 0, 0),))
        self.assertEqual(suspects(plan, rows, [[12, 22], [12, 22]]), (Slip("again", 0, 0, 0),))

    def test_of_one_without_a_slip(self):
        plan = Plan.read(ONCE)
        rows = [[1, 2], [10, 20]]
        found = suspects(plan, rows, play(plan, rows).rows)
        self.assertEqual(found, (Slip("again", 1, 0, 0), Slip("again", 1, 1, 0)))

    def test_of_none(self):
        plan = Plan.read(ONCE)
        rows = [[1, 2], [10, 20]]
        for seen in ([[0, 0], [0, 0]], [[11, 22], [11, 23]], [[10, 22], [10, 23]], [[1, 2], [10, 20]]):
            self.assertEqual(suspects(plan, rows, seen), ())

    def test_two_pieces_are_never_wrong_by_one_slip(self):
        plan = Plan.read(ONCE)
        rows = [[1, 2], [10, 20]]
        seen = play(plan, rows, [Slip("lost", 0, 0, 0), Slip("lost", 0, 1, 0)]).rows
        self.assertEqual(suspects(plan, rows, seen), ())

    def test_seen_of_another_shape(self):
        plan = Plan.read(ONCE)
        rows = [[1, 2], [10, 20]]
        for seen in ([], [[11, 22]], [[11, 22], [11, 22], [11, 22]], [[11], [11]], [[11, 22], [11]], [[], []],
                     [[11, 22, 0], [11, 22, 0]]):
            self.assertEqual(suspects(plan, rows, seen), ())

    def test_rows_of_no_numbers_come_out_so_by_all_slips(self):
        plan = Plan.read(MIXED)
        rows = [[], [], []]
        expected = tuple(Slip(kind, *place) for place in sendings(plan, 3) for kind in ("again", "lost"))
        self.assertEqual(suspects(plan, rows, rows), expected)

    def test_no_rounds(self):
        self.assertEqual(suspects(Plan(), [[1], [2]], [[1], [2]]), ())

    def test_as_told_straight(self):
        for text in TEXTS:
            plan = Plan.read(text)
            for n in (1, 2, 3, 4):
                rows = sample_rows(n, 5)
                for sending in sendings(plan, n):
                    for kind in ("again", "lost"):
                        seen = straight_play(plan, rows, [Slip(kind, *sending)])
                        with self.subTest(text, n=n, kind=kind, sending=sending):
                            found = suspects(plan, rows, seen)
                            self.assertIn(Slip(kind, *sending), found)
                            self.assertEqual(found, straight_suspects(plan, rows, seen))

    def test_equal_rows_have_many_suspects(self):
        for text in TEXTS:
            plan = Plan.read(text)
            for rows in ([[1, 1, 1]] * 3, [[0, 0]] * 2, [[0, 0, 0, 5]] * 4):
                for seen in (play(plan, rows).rows, rows, [[2] * len(rows[0])] * len(rows)):
                    self.assertEqual(suspects(plan, rows, seen), straight_suspects(plan, rows, seen))

    def test_ascending(self):
        plan = Plan.read(MIXED)
        rows = [[0] * 6] * 3
        found = [(slip.turn, slip.machine, slip.lane, slip.kind) for slip in suspects(plan, rows, rows)]
        self.assertEqual(found, sorted(found))
        self.assertEqual(len(found), 2 * len(sendings(plan, 3)))

    def test_lists_and_tuples(self):
        plan = Plan.read(ONCE)
        expected = (Slip("lost", 0, 0, 0),)
        for seen in ([[10, 22], [10, 22]], ((10, 22), (10, 22)), [(10, 22), [10, 22]]):
            found = suspects(plan=plan, rows=((1, 2), [10, 20]), seen=seen)
            self.assertEqual(found, expected)
            self.assertIsInstance(found, tuple)

    def test_what_is_passed_stays_as_it_was(self):
        rows, seen = [[1, 2], [10, 20]], [[10, 22], [10, 22]]
        suspects(Plan.read(ONCE), rows, seen)
        self.assertEqual((rows, seen), ([[1, 2], [10, 20]], [[10, 22], [10, 22]]))

    def test_no_rows(self):
        self.check_at(InvalidRows, 0, suspects, Plan.read(ONCE), [], [])
        self.check_at(InvalidRows, 1, suspects, Plan.read(ONCE), [[1], [True]], [[1], [1]])

    def test_at_the_limits(self):
        plan = Plan.read("rounds 66\nup - 0 add\ndown + 3 add\nrounds 134\nup + 1 add\nup - 0 add\ndown + 2 add")
        rows = sample_rows(8, 16)
        seen = play(plan, rows, [Slip("again", 133, 5, 1)]).rows
        self.assertIn(Slip("again", 133, 5, 1), suspects(plan, rows, seen))


if __name__ == "__main__":
    unittest.main()
