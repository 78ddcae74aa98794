"""Tables: how the sums are made up in the end, and the faults that are there."""

from ringsums.errors import InvalidFault
from ringsums.plays import do_hops, hops_in, turns_of

# In ascending order, as faults_at tells them.
FAULTS = ("doubled", "lacking")


def held(plan, n):
    """Return how often each number is in each sum in the end."""
    # All machines do alike, so what becomes of piece 0 tells of all pieces.
    cells = [tuple([int(source == machine) for source in range(n)]) for machine in range(n)]
    for block, t in turns_of(plan, n):
        cells = do_hops(cells, hops_in(block, t, n, 0))
    return tuple([_seen_from(-d % n, cells[-d % n]) for d in range(n)])


def _seen_from(machine, counts):
    """Return the counts of all sources, beginning with the machine itself and going up."""
    return counts[machine:] + counts[:machine]


def faults_at(plan, n):
    """Return the faults that are there with n machines."""
    marks = marks_at(plan, n)
    return tuple([fault for fault in FAULTS if any(wrong_bits(marks, fault))])


def spots(plan, n, fault):
    """Return the pairs (d, e) of the table that show a fault."""
    check_fault(fault)
    bits = wrong_bits(marks_at(plan, n), fault)
    return tuple([(d, e) for d in range(n) for e in _line_of(bits, d)])


def check_fault(fault):
    """Raise an error if any value is no fault."""
    if fault not in FAULTS:
        raise InvalidFault()


def marks_at(plan, n):
    """Return for each machine a mark that tells which numbers are in its sum of piece 0 in the end.

    Bit n + i of a mark tells whether the number of machine i is in the sum, bit i whether it is there twice or more.
    """
    marks = [1 << (n + machine) for machine in range(n)]
    for block in plan.blocks:
        marks = _marks_behind(block, marks)
    return marks


def _marks_behind(block, marks):
    """Return the marks after a block, from those ahead of it."""
    n = len(marks)
    rounds = max(0, int(block.rounds(n)))
    sweeps = _sweeps_in(block, n, min(rounds, len(marks)))
    # After n rounds the same hops come again, so once they change nothing they never will.
    while rounds > n:
        before = marks
        marks = _swept(sweeps, before, n)
        rounds = rounds % n if marks == before else rounds - n
    return _swept(sweeps, marks, rounds)


def _sweeps_in(block, n, rounds):
    """Return for each lane of a block which machines hand piece 0 on, to which, and whether it is put there."""
    sweeps = []
    for lane, (machine, goal, deed) in zip(block.lanes, hops_in(block, 0, n, 0)):
        sweeps.append((_course(machine, lane, n, rounds), _course(goal, lane, n, rounds), deed == "put"))
    return sweeps


def _course(machine, lane, n, rounds):
    """Return the machines that have the place of this one in the rounds of a block, n at the most."""
    if lane.sign == "-":
        return (list(range(machine, n)) + list(range(machine)))[:rounds]
    return (list(range(machine, -1, -1)) + list(range(n - 1, machine, -1)))[:rounds]


def _swept(sweeps, marks, rounds):
    """Return the marks after some rounds of a block, from those ahead of them."""
    n = len(marks)
    after = list(marks)
    for t in range(rounds):
        came = [after[machines[t]] for machines, _, _ in sweeps]
        for mark, (_, goals, is_put) in zip(came, sweeps):
            own = after[goals[t]]
            # What is in both is there twice then; the shift drops the bits of what was there twice already.
            after[goals[t]] = mark if is_put else own | mark | ((own & mark) >> n)
    return after


def wrong_bits(marks, fault):
    """Return for each machine the bits of the machines whose numbers show a fault in its sum of piece 0."""
    n = len(marks)
    every = (1 << n) - 1
    if fault == "doubled":
        return [mark & every for mark in marks]
    return [every ^ (mark >> n) for mark in marks]


def parted_bits(marks, others):
    """Return for each machine n bits (and others) of the machines whose numbers two plans have otherwise in its sum."""
    n = len(marks)
    parted = [mark ^ other for mark, other in zip(marks, others)]
    # Any other bit that is left tells that one of the n bits is there, too.
    return [bits | (bits >> n) for bits in parted]


def first_pair(bits):
    """Return the first pair (d, e) of a table that such bits tell, if there is one."""
    n = len(bits)
    lines = [d for d in range(n) if bits[-d % n] != 0]
    return lines[0], _line_of(bits, lines[0])[0]


def _line_of(bits, d):
    """Return all e of the pairs (d, e) of a table: machine -d has the bit of machine e - d."""
    n = len(bits)
    return [e for e in range(n) if (bits[-d % n] >> ((e - d) % n)) & 1 == 1]
