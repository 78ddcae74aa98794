"""Promises [14] and [15]: calendars."""

import operator
import unittest

from ringsums.calendars import Calendar
from ringsums.errors import InvalidCalendar
from samples import ErrorChecks, any_values, examples_outcome, nested

# As they stand in section 8 of the document.
EXAMPLES = r'''
    >>> from ringsums.calendars import Calendar
    >>> some = Calendar([2, 5], 6, 4, [1, 3])
    >>> str(some), some.share, str(~some), str(some & Calendar((), 1, 3, [0])), 5 in some
    ('2 from 4 of 2: 1', (1, 2), '1 3 from 4 of 2: 0', '- from 4 of 6: 3', True)
'''

# What is told, and how it stands in the attributes.
LEAST = [
    (((), 1, 1, ()), ((), 1, 1, ())),
    (((), 1, 1, (0,)), ((), 1, 1, (0,))),
    (((), 9, 1, ()), ((), 1, 1, ())),
    (((), 9, 7, ()), ((), 1, 1, ())),
    (((3,), 9, 7, ()), ((3,), 4, 1, ())),
    (((1, 2, 3), 4, 1, ()), ((1, 2, 3), 4, 1, ())),
    (((1, 2, 3), 4, 5, (0, 1, 2, 3, 4)), ((), 1, 1, (0,))),
    (((1, 3), 4, 5, (4, 3, 2, 1, 0)), ((1,), 3, 1, (0,))),
    (((2,), 3, 1, (0,)), ((), 2, 1, (0,))),
    (((), 7, 1, (0,)), ((), 7, 1, (0,))),
    (((2, 5), 6, 4, (1, 3)), ((2,), 4, 2, (1,))),
    (((), 1, 6, (1, 3, 5)), ((), 1, 2, (1,))),
    (((), 1, 6, (1, 4)), ((), 1, 3, (1,))),
    (((), 1, 6, (0, 3)), ((), 1, 3, (0,))),
    (((), 1, 6, (1, 2)), ((), 1, 6, (1, 2))),
    (((), 1, 6, (1, 2, 4, 5)), ((), 1, 3, (1, 2))),
    (((), 1, 12, (0, 2, 4, 6, 8, 10)), ((), 1, 2, (0,))),
    (((), 1, 12, (0, 2, 4, 6, 8)), ((), 1, 12, (0, 2, 4, 6, 8))),
    (((), 5, 4, (0,)), ((), 5, 4, (0,))),
    (((), 6, 4, (0,)), ((), 5, 4, (0,))),
    (((4,), 6, 4, (0,)), ((), 1, 4, (0,))),
    (((3, 4), 6, 4, (0,)), ((3,), 4, 4, (0,))),
    (((1, 4), 6, 4, (0,)), ((1,), 2, 4, (0,))),
    (((5, 1, 5, 2, 1), 6, 1, ()), ((1, 2, 5), 6, 1, ())),
    (((), 1, 5, (3, 0, 3, 3)), ((), 1, 5, (0, 3))),
    (((7, 2, 7), 9, 9, (8, 0, 8)), ((2, 7), 9, 9, (0, 8))),
    (((24,), 25, 24, (1,)), ((24,), 25, 24, (1,))),
]

# Far beyond the starts and periods of the samples.
FAR = 600


def parts(calendar):
    """Return the attributes of a calendar."""
    return calendar.few, calendar.start, calendar.period, calendar.rests


def told_set(few, start, period, rests, end=FAR):
    """Return the integers below an end that are told so."""
    return {n for n in range(1, end) if (n in few if n < start else n % period in rests)}


def told_calendars():
    """Return pairs of a calendar and its integers below FAR: sets near one another among them."""
    told = [given for given, _ in LEAST]
    told += [((), 1, 2, (0,)), ((), 1, 2, (1,)), ((), 1, 4, (0, 2)), ((), 1, 4, (0,)), ((2,), 4, 4, (0,))]
    told += [((1,), 2, 1, ()), ((1, 2), 3, 1, ()), ((2,), 3, 1, ()), ((), 2, 1, (0,)), ((1,), 3, 1, (0,))]
    told += [((), 8, 3, (0, 1)), ((3, 6), 8, 3, (0, 1)), ((3,), 10, 6, (5, 3)), ((9,), 20, 5, (2,))]
    return [(Calendar(*given), told_set(*given)) for given in told]


class TestExamples(unittest.TestCase):
    def test_section_8(self):
        self.assertEqual(examples_outcome(EXAMPLES, "section 8"), (0, 3))


class TestWrong(unittest.TestCase, ErrorChecks):
    def test_start_and_period(self):
        for value in any_values() + [-5, -10 ** 9, "1"]:
            if not isinstance(value, int) or isinstance(value, bool) or value < 1:
                self.check_word(InvalidCalendar, "start", Calendar, (), value)
                self.check_word(InvalidCalendar, "start", Calendar, start=value)
                self.check_word(InvalidCalendar, "period", Calendar, (), 1, value)
                self.check_word(InvalidCalendar, "period", Calendar, period=value)

    def test_few_and_rests(self):
        for value in any_values() + [{1: 2}, {1}, range(2), "12"]:
            if value not in ([], ()):
                self.check_word(InvalidCalendar, "few", Calendar, value)
            if value not in ([], (), (0,)):
                self.check_word(InvalidCalendar, "rests", Calendar, rests=value)

    def test_things_in_few(self):
        for value in any_values() + [-1, 6, 7, 10 ** 9, "1"]:
            if not (isinstance(value, int) and not isinstance(value, bool) and 1 <= value < 6):
                self.check_word(InvalidCalendar, "few", Calendar, [value], 6)
                self.check_word(InvalidCalendar, "few", Calendar, (1, value), 6)
                self.check_word(InvalidCalendar, "few", Calendar, [5, 2, value, 3], 6, 1, [0])
        self.check_word(InvalidCalendar, "few", Calendar, [1])
        self.assertEqual(parts(Calendar([1, 5], 6)), ((1, 5), 6, 1, ()))

    def test_things_in_rests(self):
        for value in any_values() + [-1, 4, 5, 10 ** 9, "0"]:
            if not (isinstance(value, int) and not isinstance(value, bool) and 0 <= value < 4):
                self.check_word(InvalidCalendar, "rests", Calendar, (), 1, 4, [value])
                self.check_word(InvalidCalendar, "rests", Calendar, (), 1, 4, (3, value))
                self.check_word(InvalidCalendar, "rests", Calendar, [1], 2, 4, [0, value, 1])
        self.check_word(InvalidCalendar, "rests", Calendar, (), 1, 1, [1])
        self.assertEqual(parts(Calendar((), 1, 4, [0, 3])), ((), 1, 4, (0, 3)))

    def test_the_first_wrong_argument_is_named(self):
        self.check_word(InvalidCalendar, "start", Calendar, None, 0, 0, None)
        self.check_word(InvalidCalendar, "start", Calendar, [0], True, True, [-1])
        self.check_word(InvalidCalendar, "period", Calendar, [True], 1, False, [1])
        self.check_word(InvalidCalendar, "period", Calendar, rests=None, period=0, few=None)
        self.check_word(InvalidCalendar, "few", Calendar, [1], 1, 1, [1])
        self.check_word(InvalidCalendar, "few", Calendar, [False], 2, 2, [True])
        self.check_word(InvalidCalendar, "few", Calendar, rests=None, period=2, few={})
        self.check_word(InvalidCalendar, "rests", Calendar, [1], 2, 2, [2])

    def test_deep_values(self):
        for word in ("start", "period", "few", "rests"):
            self.check_word(InvalidCalendar, word, Calendar, **{word: nested(8)})


class TestLeastForm(unittest.TestCase):
    def test_attributes(self):
        for given, least in LEAST:
            with self.subTest(given):
                self.assertEqual(parts(Calendar(*given)), least)
                self.assertEqual(told_set(*given), told_set(*least))

    def test_told_by_the_attributes_again(self):
        for calendar, _ in told_calendars():
            self.assertEqual(parts(Calendar(*parts(calendar))), parts(calendar))

    def test_defaults_and_names(self):
        self.assertEqual(parts(Calendar()), ((), 1, 1, ()))
        self.assertEqual(parts(Calendar(rests=[0])), ((), 1, 1, (0,)))
        self.assertEqual(parts(Calendar((), 2, rests=[0])), ((), 2, 1, (0,)))
        self.assertEqual(parts(Calendar(period=3, rests=[0])), ((), 1, 3, (0,)))
        self.assertEqual(parts(Calendar(rests=[1], period=2, start=4, few=[2])), ((2,), 4, 2, (1,)))
        self.assertEqual(parts(Calendar([1, 2], 3)), ((1, 2), 3, 1, ()))

    def test_longer_periods_later_starts_any_order_twice(self):
        for calendar, told in told_calendars():
            for times in (1, 2, 3, 5):
                for later in (0, 1, 2, 7, 30):
                    start = calendar.start + later
                    period = calendar.period * times
                    few = [n for n in range(1, start) if n in told]
                    rests = [n % period for n in range(start, start + period) if n in told]
                    for again in (Calendar(few, start, period, rests),
                                  Calendar(few[::-1] + few, start, period, tuple(rests[::2] + rests[::-1]))):
                        self.assertEqual(parts(again), parts(calendar))

    def test_lists_that_are_changed_behind_the_call(self):
        few, rests = [2], [1, 3]
        calendar = Calendar(few, 6, 4, rests)
        before = parts(calendar), str(calendar)
        few.append(3)
        rests.clear()
        self.assertEqual((parts(calendar), str(calendar)), before)
        self.assertEqual((few, rests), ([2, 3], []))

    def test_what_is_passed_stays_as_it_was(self):
        few, rests = [5, 2, 2], [3, 1, 3]
        Calendar(few, 6, 4, rests)
        self.assertEqual((few, rests), ([5, 2, 2], [3, 1, 3]))

    def test_tuples(self):
        for given, _ in LEAST:
            calendar = Calendar(list(given[0]), given[1], given[2], list(given[3]))
            self.assertEqual((calendar.few.__class__, calendar.rests.__class__), (tuple, tuple))


class TestIn(unittest.TestCase):
    def test_integers(self):
        for calendar, told in told_calendars():
            for n in range(-30, FAR):
                self.assertIs(n in calendar, n in told)

    def test_far_beyond_the_start(self):
        calendar = Calendar([2], 4, 24, [7, 11])
        for n in (10 ** 9, 10 ** 40, 24 * 10 ** 30 + 7, 24 * 10 ** 30 + 11, 24 * 10 ** 30 + 12):
            self.assertIs(n in calendar, n % 24 in (7, 11))
            self.assertIs(-n in calendar, False)

    def test_any_values(self):
        everything, nothing = Calendar((), 1, 1, [0]), Calendar()
        for value in any_values() + ["1", [1], (1,), nested(8)]:
            good = isinstance(value, int) and not isinstance(value, bool) and value >= 1
            self.assertIs(value in everything, good)
            self.assertIs(value not in everything, not good)
            self.assertIs(value in nothing, False)
            self.assertIs(value in Calendar([1], 2), value.__class__ is int and value == 1)


class TestProperties(unittest.TestCase):
    def test_least(self):
        for calendar, told in told_calendars():
            self.assertEqual(calendar.least, min(told, default=None))
        for start in range(1, 30):
            for period in range(1, 9):
                for rest in range(period):
                    found = Calendar((), start, period, [rest]).least
                    self.assertEqual(found, min(told_set((), start, period, (rest,))))

    def test_size(self):
        cases = [
            (Calendar(), 0), (Calendar([4], 9), 1), (Calendar([4, 4, 2], 9, 3), 2), (Calendar((), 1, 1, [0]), None),
            (Calendar([1, 2], 9, 24, [3]), None), (Calendar([], 5, 5, []), 0),
        ]
        for calendar, size in cases:
            self.assertEqual(calendar.size, size)

    def test_share(self):
        cases = [
            (Calendar(), (0, 1)), (Calendar([1, 2, 3], 4), (0, 1)), (Calendar((), 1, 1, [0]), (1, 1)),
            (Calendar((), 99, 1, [0]), (1, 1)), (Calendar((), 1, 24, [5]), (1, 24)), (Calendar([1], 2, 4, [3]), (1, 4)),
            (Calendar((), 1, 6, [0, 1]), (1, 3)), (Calendar((), 1, 6, [1, 2, 3, 5]), (2, 3)),
            (Calendar((), 1, 24, [0, 1, 2, 3, 4, 5, 6, 7, 9, 22]), (5, 12)), (Calendar((), 7, 4, [1, 2, 3]), (3, 4)),
        ]
        for calendar, share in cases:
            self.assertEqual(calendar.share, share)
            self.assertIsInstance(calendar.share, tuple)


class TestSigns(unittest.TestCase):
    SIGNS = (operator.and_, operator.or_, operator.sub, operator.xor)
    ORDERS = (operator.le, operator.lt, operator.ge, operator.gt, operator.eq, operator.ne)

    def check_told(self, calendar, told):
        """Check that a calendar has just these integers below FAR, in the least form."""
        self.assertEqual({n for n in range(1, FAR) if n in calendar}, told)
        self.assertLess(calendar.start + 2 * calendar.period, FAR)
        few = [n for n in range(1, calendar.start) if n in told]
        ahead = calendar.start + calendar.period
        rests = [n % calendar.period for n in range(calendar.start, ahead) if n in told]
        self.assertEqual(parts(Calendar(few, calendar.start, calendar.period, rests)), parts(calendar))
        self.assertEqual((list(calendar.few), list(calendar.rests)), (few, sorted(rests)))

    def test_each_sign(self):
        for one, told in told_calendars():
            for other, also in told_calendars():
                for sign in self.SIGNS:
                    self.check_told(sign(one, other), sign(told, also))

    def test_in_place_they_return_new_ones(self):
        signs = (operator.iand, operator.ior, operator.isub, operator.ixor)
        for one, _ in told_calendars():
            for other, _ in told_calendars()[::3]:
                for sign, plain in zip(signs, self.SIGNS):
                    before = parts(one), parts(other)
                    found = sign(one, other)
                    self.assertIsNot(found, one)
                    self.assertEqual(found, plain(one, other))
                    self.assertEqual((parts(one), parts(other)), before)

    def test_with_itself(self):
        for one, _ in told_calendars():
            self.assertEqual((one & one, one | one, one - one, one ^ one), (one, one, Calendar(), Calendar()))
            self.assertEqual((one <= one, one < one, one >= one, one > one, one == one, one != one),
                             (True, False, True, False, True, False))
            one &= one
            one -= one
            self.assertEqual(one, Calendar())

    def test_all_others(self):
        everything = Calendar((), 1, 1, [0])
        self.assertEqual((~Calendar(), ~everything), (everything, Calendar()))
        for one, told in told_calendars():
            self.check_told(~one, set(range(1, FAR)) - told)
            self.assertEqual(~~one, one)
            self.assertEqual((one | ~one, one & ~one, everything - one), (everything, Calendar(), ~one))

    def test_each_comparison(self):
        for one, told in told_calendars():
            for other, also in told_calendars():
                for order in self.ORDERS:
                    self.assertIs(order(one, other), order(told, also))

    def test_sets_near_one_another(self):
        period = Calendar((), 40, 24, [5, 17, 23])
        for n in (1, 39, 40, 41, 77, 200):
            alone = Calendar([n], n + 1)
            self.assertEqual((period | alone) - period, alone - period)
            more = period ^ alone
            self.assertEqual((more > period, more < period), (n not in period, n in period))
            self.assertNotEqual(more, period)
            self.assertEqual(more ^ alone, period)

    def test_periods_that_make_a_long_one(self):
        one, other = Calendar((), 1, 24, [1]), Calendar((), 1, 23, [1])
        self.assertEqual(parts(one & other), ((), 1, 552, (1,)))
        self.assertEqual((one | other).share, (1, 12))
        self.assertEqual(parts((one | other) - (one & other) | (one & other)), parts(one | other))

    def test_no_calendar(self):
        calendar = Calendar([1], 3, 2, [1])
        others = [value for value in any_values() if not isinstance(value, Calendar)] + [{1}, frozenset([1]), range(3)]
        for value in others:
            for sign in self.SIGNS + self.ORDERS[:4]:
                with self.assertRaises(TypeError):
                    sign(calendar, value)
                with self.assertRaises(TypeError):
                    sign(value, calendar)
            for sign in (operator.iand, operator.ior, operator.isub, operator.ixor):
                with self.assertRaises(TypeError):
                    sign(calendar, value)
            self.assertIs(calendar == value, False)
            self.assertIs(calendar != value, True)
            self.assertIs(value == calendar, False)

    def test_equal_if_the_sets_are(self):
        self.assertEqual(Calendar([2, 5], 6, 4, [1, 3]), Calendar([2], 4, 2, [1]))
        self.assertEqual(Calendar(), Calendar((), 500, 24))
        self.assertNotEqual(Calendar([1], 2), Calendar([1], 2, 1, [0]))
        self.assertNotEqual(Calendar((), 1, 2, [0]), Calendar((), 1, 2, [1]))
        self.assertNotEqual(Calendar((), 1, 2, [0]), Calendar((), 1, 3, [0]))
        self.assertNotEqual(Calendar((), 3, 2, [0]), Calendar((), 1, 2, [0]))


class TestText(unittest.TestCase):
    def test_texts(self):
        cases = [
            (Calendar(), "-"), (Calendar((), 8, 4), "-"), (Calendar([3], 9), "3"), (Calendar([3, 1], 9), "1 3"),
            (Calendar((), 1, 1, [0]), "- from 1 of 1: 0"), (Calendar((), 2, 1, [0]), "- from 2 of 1: 0"),
            (Calendar([1, 2], 5, 3, [2, 0]), "1 2 from 4 of 3: 0 2"),
            (Calendar([10, 9], 99, 24, [23, 0]), "9 10 from 97 of 24: 0 23"),
        ]
        for calendar, text in cases:
            self.assertEqual(str(calendar), text)

    def test_equal_if_the_texts_are(self):
        for one, _ in told_calendars():
            for other, _ in told_calendars():
                self.assertIs(one == other, str(one) == str(other))


class TestLimits(unittest.TestCase):
    def test_starts_of_500_and_periods_of_24(self):
        one = Calendar(list(range(1, 500, 2)), 500, 24, [0, 1, 5])
        other = Calendar(list(range(3, 499, 3)), 499, 23, list(range(1, 23)))
        told = told_set(range(1, 500, 2), 500, 24, (0, 1, 5), 4000)
        also = told_set(range(3, 499, 3), 499, 23, range(1, 23), 4000)
        for sign in TestSigns.SIGNS:
            found = sign(one, other)
            self.assertEqual({n for n in range(1, 4000) if n in found}, sign(told, also))
        self.assertEqual({n for n in range(1, 4000) if n in ~one}, set(range(1, 4000)) - told)
        self.assertEqual((one <= other, one >= one & other, one & other < one), (False, True, True))

    def test_what_was_returned_may_be_passed_on(self):
        found = Calendar((), 1, 1, [0])
        for period in (24, 23, 19):
            found = found & ~Calendar((), 500, period, [period - 1])
        self.assertEqual((found.period, found.share), (24 * 23 * 19, (33, 38)))
        self.assertEqual(Calendar(found.few, found.start, found.period, found.rests), found)
        self.assertEqual(found | ~found, Calendar((), 1, 1, [0]))


if __name__ == "__main__":
    unittest.main()
