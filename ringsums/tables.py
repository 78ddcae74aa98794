"""Tables: how the sums are made up in the end, and the faults that are there."""

from ringsums.errors import InvalidFault
from ringsums.plays import do_hops, hops_in, turns_of

# In ascending order, as faults_at tells them.
FAULTS = ("doubled", "lacking")


def held(plan, n):
    """Return how often each number is in each sum in the end."""
    # All machines do alike, so what becomes of piece 0 tells of all pieces.
    cells = [tuple([int(source == machine) for source in range(n)]) for machine in range(n)]
    for block, t in turns_of(plan, n):
        cells = do_hops(cells, hops_in(block, t, n, 0))
    return tuple([_seen_from(-d % n, cells[-d % n]) for d in range(n)])


def _seen_from(machine, counts):
    """Return the counts of all sources, beginning with the machine itself and going up."""
    return counts[machine:] + counts[:machine]


def faults_at(plan, n):
    """Return the faults that are there with n machines."""
    marks = marks_at(plan, n)
    return tuple([fault for fault in FAULTS if any([bits != 0 for bits in _wrong_bits(marks, fault)])])


def spots(plan, n, fault):
    """Return the pairs (d, e) of the table that show a fault."""
    check_fault(fault)
    return _pairs_of(_wrong_bits(marks_at(plan, n), fault))


def check_fault(fault):
    """Raise an error if any value is no fault."""
    if fault not in FAULTS:
        raise InvalidFault()


def marks_at(plan, n):
    """Return for each machine a mark that tells which numbers are in its sum of piece 0 in the end.

    Bit n + i of a mark tells whether the number of machine i is in the sum, bit i whether it is there twice or more.
    """
    marks = [1 << (n + machine) for machine in range(n)]
    for block in plan.blocks:
        marks = _swept(block, marks)
    return marks


def _swept(block, marks):
    """Return the marks after a block, from those ahead of it."""
    n = len(marks)
    after = list(marks)
    # Each round has the hops of the first one, moved on by one machine for each round.
    hops = hops_in(block, 0, n, 0)
    alongs = [1 if lane.sign == "-" else -1 for lane in block.lanes]
    for t in range(block.rounds(n)):
        came = [after[(hop[0] + t * along) % n] for hop, along in zip(hops, alongs)]
        for mark, (_, goal, deed), along in zip(came, hops, alongs):
            at = (goal + t * along) % n
            after[at] = mark if deed == "put" else _added(after[at], mark, n)
    return after


def _added(own, came, n):
    """Return the mark of a sum from those of its two parts."""
    # What is in both is there twice then; the shift drops the bits of what was there twice already.
    return own | came | ((own & came) >> n)


def _wrong_bits(marks, fault):
    """Return for each machine the bits of the machines whose numbers show a fault in its sum of piece 0."""
    n = len(marks)
    every = (1 << n) - 1
    if fault == "doubled":
        return [mark & every for mark in marks]
    return [every ^ (mark >> n) for mark in marks]


def parted_pairs(marks, others):
    """Return the pairs (d, e) at which the tables part that two plans have, from the marks of both."""
    n = len(marks)
    parted = [mark ^ other for mark, other in zip(marks, others)]
    return _pairs_of([bits | (bits >> n) for bits in parted])


def _pairs_of(bits):
    """Return the pairs (d, e) of a table for which the first n bits of machine -d have that of machine e - d."""
    n = len(bits)
    return tuple([(d, e) for d in range(n) for e in range(n) if (bits[-d % n] >> ((e - d) % n)) & 1 == 1])
