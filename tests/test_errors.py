"""Promise [4]: the errors."""

import unittest

from ringsums import errors

WITH_WORD = ["InvalidForm", "InvalidLane", "InvalidBlock", "InvalidSlip", "InvalidCalendar"]
WITH_AT = ["InvalidText", "InvalidRows", "Refused"]
BARE = ["InvalidPlan", "InvalidFault", "InvalidCommand"]


class TestErrors(unittest.TestCase):
    def test_base_is_a_value_error(self):
        self.assertEqual(errors.RingError.__bases__, (ValueError,))

    def test_direct_subclasses_of_the_base(self):
        for name in WITH_WORD + WITH_AT + BARE:
            self.assertEqual(getattr(errors, name).__bases__, (errors.RingError,), name)

    def test_no_block_is_an_index_error_only(self):
        self.assertEqual(errors.NoBlock.__bases__, (IndexError,))
        self.assertFalse(issubclass(errors.NoBlock, errors.RingError))

    def test_none_is_another_one(self):
        classes = [getattr(errors, name) for name in WITH_WORD + WITH_AT + BARE + ["NoBlock"]]
        for one in classes:
            for other in classes:
                self.assertEqual(issubclass(one, other), one is other)

    def test_thirteen_classes(self):
        names = [name for name, value in vars(errors).items() if isinstance(value, type)]
        self.assertEqual(sorted(names), sorted(WITH_WORD + WITH_AT + BARE + ["RingError", "NoBlock"]))

    def test_keep_the_very_argument(self):
        for thing in ("times", 3, -1, None, True, [1, [2]], object()):
            for name in WITH_WORD:
                made = getattr(errors, name)
                self.assertIs(made(thing).word, thing)
                self.assertIs(made(word=thing).word, thing)
            for name in WITH_AT + ["NoBlock"]:
                made = getattr(errors, name)
                self.assertIs(made(thing).at, thing)
                self.assertIs(made(at=thing).at, thing)

    def test_a_kept_list_shows_later_changes(self):
        thing = [1]
        error = errors.Refused(thing)
        thing.append(2)
        self.assertEqual(error.at, [1, 2])

    def test_want_their_argument(self):
        for name in WITH_WORD + WITH_AT + ["NoBlock"]:
            with self.assertRaises(TypeError):
                getattr(errors, name)()

    def test_bare_ones_take_nothing(self):
        for name in BARE:
            with self.assertRaises(errors.RingError):
                raise getattr(errors, name)()


if __name__ == "__main__":
    unittest.main()
