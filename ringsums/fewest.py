"""Fewest rounds: how soon one piece can be summed up everywhere, if only so many hops are done at a time."""

from ringsums.kinds import is_number
from ringsums.plans import DEEDS, STEPS, WAYS
from ringsums.plays import do_hops

# For each number of ways: the ways of the hops of a round.
ROUNDS = {1: (("up",),), 2: (("up",), ("down",), ("up", "down"))}


def fewest(n, ways):
    """Return the least number of rounds of a right schedule."""
    return len(schedule(n, ways))


def schedule(n, ways):
    """Return a right schedule with the fewest rounds."""
    turns = _all_turns(n, ways)
    start = _cells_at_first(n)
    found = {start: ()}
    latest = [start]
    # All cells that so many rounds lead to are found ahead of those that need one more.
    while not any([_are_right(cells) for cells in latest]):
        ahead = []
        for cells in latest:
            for turn in turns:
                after = _cells_after(cells, turn)
                if after not in found:
                    found[after] = (*found[cells], turn)
                    ahead.append(after)
        latest = ahead
    return [found[cells] for cells in latest if _are_right(cells)][0]


def schedule_holds(n, ways, value):
    """Tell whether any value is a right schedule."""
    if not isinstance(value, tuple) or not all([_is_turn(n, ways, turn) for turn in value]):
        return False
    cells = _cells_at_first(n)
    for turn in value:
        cells = _cells_after(cells, turn)
    return _are_right(cells)


def _is_turn(n, ways, value):
    """Tell whether any value is a round of a schedule."""
    if not isinstance(value, tuple) or not all([_is_hop(n, hop) for hop in value]):
        return False
    return tuple([hop[1] for hop in value]) in ROUNDS[ways]


def _is_hop(n, value):
    """Tell whether any value is a hop."""
    if not isinstance(value, tuple) or len(value) != 3:
        return False
    machine, way, deed = value
    return is_number(machine) and machine < n and way in WAYS and deed in DEEDS


def _all_turns(n, ways):
    """Return all rounds that a schedule can have."""
    turns = []
    for told in ROUNDS[ways]:
        rows = [()]
        for way in told:
            rows = [(*row, (machine, way, deed)) for row in rows for machine in range(n) for deed in DEEDS]
        turns.extend(rows)
    return turns


def _cells_at_first(n):
    """Return what the machines have at first: how often the number of each is in their sum."""
    return tuple([tuple([int(machine == source) for source in range(n)]) for machine in range(n)])


def _cells_after(cells, turn):
    """Return what the machines have after a round, from what they have ahead of it."""
    hops = [(machine, (machine + STEPS[way]) % len(cells), deed) for machine, way, deed in turn]
    return tuple([_marked(counts) for counts in do_hops(cells, hops)])


def _marked(counts):
    """Return the counts, but the same for all sums that have a number twice: none of them gets right any more."""
    return (2,) * len(counts) if any([count > 1 for count in counts]) else counts


def _are_right(cells):
    """Tell whether each machine has each number once."""
    return all([count == 1 for counts in cells for count in counts])
