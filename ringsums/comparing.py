"""Comparing: for which numbers of machines two plans do the same, and what a plan can spare."""

from math import lcm

from ringsums.calendars import calendar_from
from ringsums.deciding import bound_from, is_right, period_of, reach_of, right, sweeps_of
from ringsums.forms import Form
from ringsums.plans import Block, Lane, Plan
from ringsums.settling import settled_from
from ringsums.tables import first_pair, marks_at, parted_bits


def same_for(p, q):
    """Return the calendar of all numbers of machines for which two plans do the same."""
    found = _sames_found(p, q)
    flags = [_is_same_at(found, p, q, n) for n in range(1, _end_of(p, q))]
    return calendar_from(flags, _period_of_both(p, q))


def alike(p, q):
    """Tell whether two plans do the same for all numbers of machines."""
    return _first_parting(p, q) is None


def parting(p, q):
    """Return the least number of machines for which two plans part and the first pair that shows it, or None."""
    n = _first_parting(p, q)
    if n is None:
        return None
    d, e = first_pair(parted_bits(marks_at(p, n), marks_at(q, n)))
    return n, d, e


def _first_parting(p, q):
    """Return the least number of machines for which two plans do not do the same, or None."""
    found = _sames_found(p, q)
    for n in range(1, _end_of(p, q)):
        if not _is_same_at(found, p, q, n):
            return n
    return None


def _is_same_at(found, p, q, n):
    """Tell whether two plans do the same for n machines, which is looked for only once."""
    while len(found) < n:
        machines = len(found) + 1
        found.append(marks_at(p, machines) == marks_at(q, machines))
    return found[n - 1]


def _sames_found(p, q):
    """Return the list of whether two plans do the same for 1, 2 and so on machines, as far as this is known.

    Both plans keep it, until they are compared with other ones. Plans with one text do the same.
    """
    front, behind = str(p), str(q)
    found = p.found.get("sames", {}).get(behind)
    if found is None:
        found = q.found.get("sames", {}).get(front, [])
    p.found["sames"] = {behind: found}
    q.found["sames"] = {front: found}
    return found


def _period_of_both(p, q):
    """Return the period with which two plans do the same again."""
    return lcm(period_of(p), period_of(q))


def _end_of(p, q):
    """Return the number of machines ahead of which all that two plans do has been seen."""
    period = _period_of_both(p, q)
    reach = max(int(reach_of(p)), reach_of(q))
    bound = bound_from(period, reach, sweeps_of(p) + sweeps_of(q))
    return min(int(bound), settled_from(period, [p, q])) + period


def needless(plan):
    """Return the numbers of the blocks without which, each alone, a plan is alike."""
    return tuple([at for at in range(len(plan)) if alike(plan, plan.without(at))])


def repairs(plan):
    """Return (block, lane, change) for each change of one form by which a plan gets right for all."""
    return tuple([
        (at, lane, change)
        for at, block in enumerate(plan.blocks) for lane in range(-1, len(block.lanes)) for change in (-1, 1)
        if is_right(_changed(plan, at, lane, change))
    ])


def spare(plan, at):
    """Return the calendar of the numbers of machines for which a block can do with one round less."""
    rounds = plan[at].rounds
    # One round less, whatever the rounds are divided by.
    less = _changed(plan, at, -1, -rounds.by)
    flags = [rounds(n) >= 1 for n in range(1, _end_of(plan, less))]
    return calendar_from(flags, period_of(plan)) & right(plan) & right(less)


def _changed(plan, at, lane, change):
    """Return the plan with the plus of one form greater by change: of the rounds of a block if lane is -1."""
    return Plan([
        _changed_block(block, lane, change) if number == at else block for number, block in enumerate(plan.blocks)
    ])


def _changed_block(block, at, change):
    """Return the block with the plus of one form greater by change."""
    if at == -1:
        return Block(_greater(block.rounds, change), block.lanes)
    return Block(block.rounds, [
        Lane(lane.way, lane.sign, _greater(lane.shift, change), lane.deed) if number == at else lane
        for number, lane in enumerate(block.lanes)
    ])


def _greater(form, change):
    """Return the form with a plus that is greater by change."""
    return Form(form.times, form.plus + change, form.by)
