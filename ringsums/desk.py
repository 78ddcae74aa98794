"""Desks: what is done with a plan and a ring, told by commands."""

from ringsums.deciding import bound_of, right, shows
from ringsums.errors import InvalidCommand
from ringsums.kinds import whole_in
from ringsums.live import Ring
from ringsums.plans import Plan
from ringsums.tables import FAULTS

MOST_DIGITS = 6

# What the commands want to be there.
WANT_PLAN = ("rows", "right", "shows", "bound")
WANT_RING = ("round", "rest", "fall", "undo")


def _do_plan(desk, words):
    """Keep a new plan, and no ring."""
    plan = Plan.read(" ".join(words).replace(" ; ", "\n"))
    desk.plan = plan
    desk.ring = None
    return str(len(plan))


def _do_rows(desk, words):
    """Make a new ring with the plan."""
    desk.ring = Ring(desk.plan, [[int(number) for number in word.split(",")] for word in words])
    return str(len(words))


def _do_round(desk, _):
    """Do the next round."""
    return str(desk.ring.step())


def _do_rest(desk, _):
    """Do all other rounds."""
    return " ".join([_joined(",", row) for row in desk.ring.rest()])


def _do_fall(desk, words):
    """Let a machine fall out."""
    desk.ring.fall(int(words[0]))
    return "fallen"


def _do_undo(desk, _):
    """Take back what the ring did last."""
    return "undone" if desk.ring.undo() else "nothing"


def _do_right(desk, _):
    """Tell for which numbers of machines the plan is right."""
    return str(right(desk.plan))


def _do_shows(desk, words):
    """Tell where a fault is there first."""
    found = shows(desk.plan, words[0])
    return "never" if found is None else _joined(" ", found)


def _do_bound(desk, _):
    """Tell the bound of the plan."""
    return str(bound_of(desk.plan))


DOERS = {
    "plan": _do_plan, "rows": _do_rows, "round": _do_round, "rest": _do_rest, "fall": _do_fall, "undo": _do_undo,
    "right": _do_right, "shows": _do_shows, "bound": _do_bound,
}


class Desk:
    """A desk keeps a plan and a ring, and does commands with them."""

    def __init__(self):
        self.plan = None
        self.ring = None

    def say(self, command):
        """Do a command, and return what it tells."""
        words = _words_in(command)
        if not _is_told(words) or not self._has_all_for(words[0]):
            raise InvalidCommand()
        doer = DOERS[words[0]]
        return doer(self, words[1:])

    def _has_all_for(self, word):
        """Tell whether there is what a command wants."""
        return (self.plan is not None or word not in WANT_PLAN) and (self.ring is not None or word not in WANT_RING)


def _words_in(command):
    """Return the words of a command, of which there is at least one."""
    if not isinstance(command, str) or "\n" in command:
        raise InvalidCommand()
    words = command.split(" ")
    if "" in words:
        raise InvalidCommand()
    return words


def _is_told(words):
    """Tell whether words have the form of a command."""
    first, *others = words
    if first == "plan":
        return len(others) >= 1
    if first == "rows":
        return len(others) >= 1 and all([_is_integer(number) for word in others for number in word.split(",")])
    if first == "fall":
        return len(others) == 1 and _is_integer(others[0])
    if first == "shows":
        return len(others) == 1 and others[0] in FAULTS
    return first in DOERS and len(others) == 0


def _is_integer(word):
    """Tell whether a word is an integer with few digits, as Python writes it."""
    if len(word.removeprefix("-")) > MOST_DIGITS:
        return False
    number = whole_in(word)
    return number is not None and str(number) == word


def _joined(sign, numbers):
    """Return the text of numbers with a sign between them."""
    return sign.join([str(number) for number in numbers])
