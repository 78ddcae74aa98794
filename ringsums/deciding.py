"""Deciding: for which numbers of machines a plan is right, told for all of them at once."""

from math import lcm

from ringsums.calendars import calendar_from
from ringsums.settling import settled_from
from ringsums.tables import check_fault, faults_at, first_pair, marks_at, wrong_bits


def period_of(plan):
    """Return after how many more machines the same faults are there again, from the bound on."""
    common = common_by(plan)
    return 2 * common if any([_has_both_signs(block) for block in plan.blocks]) else common


def common_by(plan):
    """Return the least common multiple of all by in a plan."""
    common = 1
    for form in [*_round_forms(plan), *_shift_forms(plan)]:
        common = lcm(common, form.by)
    return common


def _round_forms(plan):
    """Return the forms of the rounds of all blocks."""
    return [block.rounds for block in plan.blocks]


def _shift_forms(plan):
    """Return the forms of the shifts of all lanes."""
    return [lane.shift for block in plan.blocks for lane in block.lanes]


def _has_both_signs(block):
    """Tell whether a block has lanes of both signs."""
    return len(set([lane.sign for lane in block.lanes])) == 2


def bound_of(plan):
    """Return the number of machines from which on the faults repeat themselves."""
    return bound_from(period_of(plan), reach_of(plan), sweeps_of(plan))


def bound_from(period, reach, sweeps):
    """Return the bound that belongs to the F, D and S of the document."""
    return period * (2 * reach + 3 * sweeps + 10)


def reach_of(plan):
    """Return the D of the document: how far from parts of the ring sweeps can begin, end and meet."""
    return 3 + 2 * common_by(plan) + _widest(_shift_forms(plan)) + _widest(_round_forms(plan))


def _widest(forms):
    """Return the greatest size of a plus in forms."""
    return max([int(abs(form.plus)) for form in forms], default=0)


def sweeps_of(plan):
    """Return the S of the document: how many sweeps there are that can pass a cell."""
    return sum([
        len(block.lanes) * (2 + block.rounds.times // block.rounds.by)
        for block in plan.blocks if block.rounds.times >= 0
    ])


def right(plan):
    """Return the calendar of all numbers of machines for which a plan is right."""
    flags = [len(_faults_found(plan, n)) == 0 for n in range(1, _end_of(plan))]
    return calendar_from(flags, period_of(plan))


def happens(plan, fault):
    """Return the calendar of all numbers of machines with which a fault is there."""
    check_fault(fault)
    flags = [fault in _faults_found(plan, n) for n in range(1, _end_of(plan))]
    return calendar_from(flags, period_of(plan))


def is_right(plan):
    """Tell whether a plan is right for all numbers of machines."""
    for n in range(1, _end_of(plan)):
        if len(_faults_found(plan, n)) > 0:
            return False
    return True


def shows(plan, fault):
    """Return the least number of machines with which a fault is there and its first spot, or None."""
    check_fault(fault)
    for n in range(1, _end_of(plan)):
        if fault in _faults_found(plan, n):
            d, e = first_pair(wrong_bits(marks_at(plan, n), fault))
            return n, d, e
    return None


def _faults_found(plan, n):
    """Return the faults that are there with n machines, which are looked for only once."""
    found = plan.found.setdefault("faults", [])
    while len(found) < n:
        found.append(faults_at(plan, len(found) + 1))
    return found[n - 1]


def _end_of(plan):
    """Return the number of machines ahead of which all that there is has been seen."""
    period = period_of(plan)
    return min(int(bound_of(plan)), settled_from(period, [plan])) + period
