"""Forms: integers that are told by the number of machines."""

from ringsums.errors import InvalidForm, InvalidText
from ringsums.kinds import is_whole, whole_in


class Form:
    """The form (times * n + plus) // by, rounded down."""

    def __init__(self, times=0, plus=0, by=1):
        if not is_whole(times):
            raise InvalidForm("times")
        if not is_whole(plus):
            raise InvalidForm("plus")
        if not is_whole(by) or by < 1:
            raise InvalidForm("by")
        self.times = times
        self.plus = plus
        self.by = by

    def __call__(self, n):
        return (self.times * n + self.plus) // self.by

    def __eq__(self, other):
        return (isinstance(other, Form) and self.times == other.times
                and self.plus == other.plus and self.by == other.by)

    def __str__(self):
        return str(_text(self.times, self.plus, self.by))

    @classmethod
    def read(cls, text):
        """Return the form with just such a text."""
        parts = _parts(text)
        if parts is None:
            raise InvalidText(0)
        times, plus, by = parts
        return cls(times, plus, by)


def _text(times, plus, by):
    """Return the text of a form with these arguments."""
    upper = _upper(times, plus)
    return f"({upper})/{by}" if by > 1 else upper


def _upper(times, plus):
    """Return the text of what is divided in a form."""
    if times == 0:
        return f"{plus}"
    front = f"{times}n"
    if times == 1:
        front = "n"
    if times == -1:
        front = "-n"
    return f"{front}{plus:+d}" if plus != 0 else front


def _parts(text):
    """Return times, plus and by of the form with just such a text, or None."""
    upper = text
    by = 1
    if text.startswith("("):
        upper, _, lower = text[1:].partition(")/")
        by = whole_in(lower)
    times, plus = _upper_parts(upper)
    # The reading is lax (it takes 1n, n+0, (n)/1); only the very text of the form may pass.
    if None in (times, plus, by) or _text(times, plus, by) != text:
        return None
    return times, plus, by


def _upper_parts(upper):
    """Return times and plus, None for what cannot be read."""
    front, mark, behind = upper.partition("n")
    if mark == "":
        return 0, whole_in(front)
    plus = 0 if behind == "" else whole_in(behind.removeprefix("+"))
    return _factor(front), plus


def _factor(word):
    """Return the integer that the word ahead of an n tells, or None."""
    if word == "":
        return 1
    if word == "-":
        return -1
    return whole_in(word)
