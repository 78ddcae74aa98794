"""What an integer, a number and a sequence are, for all modules."""


def is_whole(value):
    """Tell whether any value is an integer: True and False are none."""
    return isinstance(value, int) and not isinstance(value, bool)


def is_number(value):
    """Tell whether any value is an integer from 0 on."""
    return is_whole(value) and value >= 0


def is_sequence(value):
    """Tell whether any value is a list or a tuple."""
    return isinstance(value, (list, tuple))


def whole_in(word):
    """Return the integer that a word tells, perhaps with zeros ahead of it, or None."""
    digits = word.removeprefix("-")
    return int(word) if digits.isascii() and digits.isdigit() else None
