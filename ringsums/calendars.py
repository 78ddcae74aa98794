"""Calendars: sets of integers from 1 on that repeat themselves from somewhere on."""

from math import gcd, lcm

from ringsums.errors import InvalidCalendar
from ringsums.kinds import is_sequence, is_whole

# For each sign: the pairs (in the first one, in the second one) of the integers that it keeps.
KEPT_BY_AND = ((True, True),)
KEPT_BY_OR = ((True, True), (True, False), (False, True))
KEPT_BY_MINUS = ((True, False),)
KEPT_BY_XOR = ((True, False), (False, True))


class Calendar:
    """The integers in few, and from start on those whose remainder by period is in rests."""

    def __init__(self, few=(), start=1, period=1, rests=()):
        if not _is_from_1(start):
            raise InvalidCalendar("start")
        if not _is_from_1(period):
            raise InvalidCalendar("period")
        if not _are_between(few, 1, start):
            raise InvalidCalendar("few")
        if not _are_between(rests, 0, period):
            raise InvalidCalendar("rests")
        self.period = _least_period(period, rests)
        self.rests = _ascending(rests, 0, self.period)
        self.start = _least_start(few, start, self.period, self.rests)
        self.few = _ascending(few, 1, self.start)

    @property
    def least(self):
        """The least integer in it, or None."""
        if len(self.few) > 0:
            return self.few[0]
        if len(self.rests) == 0:
            return None
        passed = self.start % self.period
        ahead = [rest for rest in self.rests if rest >= passed]
        following = ahead[0] if len(ahead) > 0 else self.rests[0] + self.period
        return self.start + following - passed

    @property
    def size(self):
        """How many integers are in it, or None if there is no end."""
        return len(self.few) if len(self.rests) == 0 else None

    @property
    def share(self):
        """The part of all integers that it has in the long run."""
        common = gcd(len(self.rests), self.period)
        return len(self.rests) // common, self.period // common

    def __contains__(self, value):
        if not _is_from_1(value):
            return False
        return value in self.few if value < self.start else value % self.period in self.rests

    def __invert__(self):
        flags = _flags_of(self, self.start + self.period)
        return calendar_from([not flag for flag in flags], self.period)

    def __and__(self, other):
        if not isinstance(other, Calendar):
            return NotImplemented
        return _merged(self, other, KEPT_BY_AND)

    def __or__(self, other):
        if not isinstance(other, Calendar):
            return NotImplemented
        return _merged(self, other, KEPT_BY_OR)

    def __sub__(self, other):
        if not isinstance(other, Calendar):
            return NotImplemented
        return _merged(self, other, KEPT_BY_MINUS)

    def __xor__(self, other):
        if not isinstance(other, Calendar):
            return NotImplemented
        return _merged(self, other, KEPT_BY_XOR)

    def __le__(self, other):
        if not isinstance(other, Calendar):
            return NotImplemented
        return (self - other).size == 0

    def __lt__(self, other):
        if not isinstance(other, Calendar):
            return NotImplemented
        return self != other and (self - other).size == 0

    def __ge__(self, other):
        if not isinstance(other, Calendar):
            return NotImplemented
        return (other - self).size == 0

    def __gt__(self, other):
        if not isinstance(other, Calendar):
            return NotImplemented
        return self != other and (other - self).size == 0

    # All four are told by the set alone, so equal sets have the same.
    def __eq__(self, other):
        return (isinstance(other, Calendar) and self.few == other.few and self.start == other.start
                and self.period == other.period and self.rests == other.rests)

    def __str__(self):
        return str(_text(self.few, self.start, self.period, self.rests))


def _is_from_1(value):
    """Tell whether any value is an integer from 1 on."""
    return is_whole(value) and value >= 1


def _are_between(values, low, end):
    """Tell whether any value is a sequence of integers from low on and below end."""
    return is_sequence(values) and all([is_whole(value) and low <= value < end for value in values])


def _ascending(values, low, end):
    """Return the integers from low on and below end that are among the values, each once."""
    wanted = {value: True for value in values}
    return tuple([n for n in range(low, end) if n in wanted])


def _least_period(period, rests):
    """Return the least period with which the same rests can be told."""
    wanted = {rest: True for rest in rests}
    for shorter in range(1, period):
        if period % shorter == 0 and all([(rest + shorter) % period in wanted for rest in rests]):
            return shorter
    return period


def _least_start(few, start, period, rests):
    """Return the least start with which the same integers can be told."""
    early = {n: True for n in few}
    late = {rest: True for rest in rests}
    earlier = start
    while earlier > 1 and (earlier - 1 in early) == ((earlier - 1) % period in late):
        earlier -= 1
    return earlier


def _merged(one, other, kept):
    """Return the calendar of the integers whose pair (in the one, in the other) is kept."""
    start = one.start if one.start > other.start else other.start
    period = lcm(one.period, other.period)
    pairs = list(zip(_flags_of(one, start + period), _flags_of(other, start + period)))
    return calendar_from([pair in kept for pair in pairs], period)


def _flags_of(calendar, end):
    """Return for each integer from 1 on and below end whether it is in a calendar."""
    few = {n: True for n in calendar.few}
    rests = {rest: True for rest in calendar.rests}
    return [n in few if n < calendar.start else n % calendar.period in rests for n in range(1, end)]


def calendar_from(flags, period):
    """Return the calendar of the integers with a flag: flags of 1, 2 and so on, of which the last period goes on."""
    start = len(flags) - period + 1
    few = [n for n in range(1, start) if flags[n - 1]]
    rests = [n % period for n in range(start, start + period) if flags[n - 1]]
    return Calendar(few, start, period, rests)


def _text(few, start, period, rests):
    """Return the text of a calendar with these attributes."""
    front = _spaced(few) if len(few) > 0 else "-"
    return f"{front} from {start} of {period}: {_spaced(rests)}" if len(rests) > 0 else front


def _spaced(numbers):
    """Return the text of numbers, separated by single spaces."""
    return " ".join([str(n) for n in numbers])
