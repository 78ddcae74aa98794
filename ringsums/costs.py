"""Costs: how many rounds, numbers and hops a plan takes, and what late machines make of it."""

from itertools import accumulate
from math import gcd

from ringsums.calendars import calendar_from
from ringsums.deciding import common_by, right
from ringsums.plans import STEPS
from ringsums.plays import handed_on, turns_of


def pace(plan):
    """Return the limit of the number of all rounds by that of machines, in lowest terms."""
    upper, lower = 0, 1
    for block in plan.blocks:
        # Less than 0 would be no rounds at all for great n.
        times = max(0, int(block.rounds.times))
        upper, lower = upper * block.rounds.by + times * lower, lower * block.rounds.by
    common = gcd(upper, lower)
    return upper // common, lower // common


def sent(plan, n, length):
    """Return for each machine how many numbers it hands on, of rows of this length."""
    return handed_on(turns_of(plan, n), n, length)


def hops(plan, n):
    """Return how often one piece is handed on."""
    return sum([len(block.lanes) * max(0, int(block.rounds(n))) for block in plan.blocks])


def lean(plan):
    """Return the calendar of the numbers of machines for which a plan is right by the fewest hops."""
    common = common_by(plan)
    flags = [hops(plan, n) == 2 * n - 2 for n in range(1, _end_of_hops(plan) + common)]
    return calendar_from(flags, common) & right(plan)


def _end_of_hops(plan):
    """Return a number from which on the remainder of n by W tells whether a plan has 2 n - 2 hops.

    From start on it is settled which blocks have rounds. For n with one remainder by W, the hops less 2 n - 2 are then
    so many W-th parts of n, plus something below rest: from W * rest on this is 0 for all of them, or for none.
    """
    forms = [block.rounds for block in plan.blocks]
    start = 1 + max([int(abs(form.plus) + form.by) for form in forms], default=0)
    rest = 3 + sum([len(block.lanes) * (1 + abs(block.rounds.plus)) for block in plan.blocks])
    return start + common_by(plan) * rest


def ends(plan, late):
    """Return when the machines are done, from when they are ready."""
    return _all_ends(turns_of(plan, len(late)), late)[-1]


def _all_ends(turns, late):
    """Return the ends of all machines ahead of each round, and in the end."""
    found = [tuple(late)]
    for block, _ in turns:
        steps = [0, *_steps_of(block)]
        before = found[-1]
        found.append(tuple([
            1 + max([int(before[(machine - step) % len(before)]) for step in steps]) for machine in range(len(before))
        ]))
    return found


def _steps_of(block):
    """Return for each lane of a block how far up a piece is handed on."""
    return [STEPS[lane.way] for lane in block.lanes]


def rooms(plan, late):
    """Return the greatest number of pieces that wait for one machine at a time."""
    turns = turns_of(plan, len(late))
    found = _all_ends(turns, late)
    return max([int(_most_waiting(_changes_at(machine, turns, found))) for machine in range(len(late))])


def _changes_at(machine, turns, found):
    """Return by how much the number of pieces that wait for a machine changes at each time, by the time."""
    changes = {}
    for turn, (block, _) in enumerate(turns):
        before, after = found[turn], found[turn + 1]
        for step in _steps_of(block):
            comes = before[(machine - step) % len(before)] + 1
            changes[comes] = changes.get(comes, 0) + 1
            changes[after[machine]] = changes.get(after[machine], 0) - 1
    return changes


def _most_waiting(changes):
    """Return the greatest number that ever waits, from the changes by their times."""
    times = sorted([int(time) for time in changes])
    return max([int(waiting) for waiting in accumulate([changes[time] for time in times])], default=0)
