"""Playing: plans are done with the rows of a ring of machines."""

from ringsums.errors import InvalidRows, InvalidSlip, Refused
from ringsums.kinds import is_number, is_sequence, is_whole
from ringsums.plans import STEPS

# In ascending order, as suspects are told.
KINDS = ("again", "lost")
COMINGS = {"again": 2, "lost": 0}


def cuts(length, n):
    """Return where the n pieces of a row begin and end."""
    return tuple([(piece * length // n, (piece + 1) * length // n) for piece in range(n)])


class Slip:
    """A sending that goes wrong."""

    def __init__(self, kind, turn, machine, lane):
        if kind not in KINDS:
            raise InvalidSlip("kind")
        if not is_number(turn):
            raise InvalidSlip("turn")
        if not is_number(machine):
            raise InvalidSlip("machine")
        if not is_number(lane):
            raise InvalidSlip("lane")
        self.kind = kind
        self.turn = turn
        self.machine = machine
        self.lane = lane

    def __eq__(self, other):
        return (isinstance(other, Slip) and self.kind == other.kind and self.turn == other.turn
                and self.machine == other.machine and self.lane == other.lane)


class Played:
    """How a play ended."""

    def __init__(self, rows, sums, sent):
        self.rows = rows
        self.sums = sums
        self.is_right = are_all(rows, sums)
        self.sent = sent

    def __eq__(self, other):
        return (isinstance(other, Played) and self.rows == other.rows
                and self.sums == other.sums and self.sent == other.sent)


def play(plan, rows, slips=()):
    """Do all rounds of a plan with the rows of the machines."""
    check_rows(rows)
    n = len(rows)
    turns = turns_of(plan, n)
    numbered = dict(enumerate(turns))
    ends = rows_after(rows, numbered, comings_of(slips, numbered, n))
    return Played(ends, sums_of(rows), handed_on(turns, n, len(rows[0])))


def rows_after(rows, turns, comings):
    """Return the rows after some rounds, told by their numbers, from those ahead of them."""
    return rows_of([_cells_after(piece, cells, turns, comings) for piece, cells in enumerate(columns_of(rows))])


def _cells_after(piece, cells, turns, comings):
    """Return what the machines have of a piece after some rounds, from what they have ahead of them."""
    for turn, (block, t) in turns.items():
        hops = hops_in(block, t, len(cells), piece)
        cells = do_hops(cells, with_slips(hops, turn, comings))
    return cells


def suspects(plan, rows, seen):
    """Return all slips, each alone, by which the rows come out as they were seen."""
    check_rows(rows)
    if [len(row) for row in seen] != [len(row) for row in rows]:
        return ()
    n = len(rows)
    turns = turns_of(plan, n)
    courses = [Course(turns, piece, cells) for piece, cells in enumerate(columns_of(rows))]
    ends = columns_of(seen)
    # A slip changes one piece, so all others must have come out as without a slip.
    wrong = [piece for piece in range(n) if courses[piece].states[-1] != ends[piece]]
    found = []
    for turn, (block, t) in enumerate(turns):
        for machine in range(n):
            for at, lane in enumerate(block.lanes):
                piece = (machine + drift(lane, t, n)) % n
                if wrong in ([], [piece]):
                    kinds = courses[piece].kinds_to(ends[piece], turn, at)
                    found.extend([Slip(kind, turn, machine, at) for kind in kinds])
    return tuple(found)


class Course:
    """All that happens to one piece: its hops in each round, and its cells ahead of each and in the end."""

    def __init__(self, turns, piece, cells):
        self.hops = [hops_in(block, t, len(cells), piece) for block, t in turns]
        self.states = [cells]
        for hops in self.hops:
            self.states.append(do_hops(self.states[-1], hops))

    def kinds_to(self, end, turn, lane):
        """Return the kinds of slips of one sending by which the cells come to this end."""
        return [kind for kind in KINDS if self.end_with(kind, turn, lane) == end]

    def end_with(self, kind, turn, lane):
        """Return the cells in the end if one sending goes wrong."""
        hops = self.hops[turn]
        hops = hops[:lane] + [hops[lane]] * COMINGS[kind] + hops[lane + 1:]
        cells = do_hops(self.states[turn], hops)
        for later in self.hops[turn + 1:]:
            cells = do_hops(cells, later)
        return cells


def check_rows(rows):
    """Raise an error if any value is no rows, or not of the same length."""
    if not is_sequence(rows) or len(rows) == 0:
        raise InvalidRows(0)
    for at, row in enumerate(rows):
        if not _is_row(row) or len(row) != len(rows[0]):
            raise InvalidRows(at)


def _is_row(row):
    """Tell whether any value is a sequence of integers."""
    return is_sequence(row) and all([is_whole(number) for number in row])


def comings_of(slips, turns, n):
    """Return how often each sending with a slip comes, in rounds told by their numbers."""
    comings = {}
    for at, slip in enumerate(slips):
        sending = (slip.turn, slip.machine, slip.lane)
        if sending in comings or not _is_there(slip, turns, n):
            raise Refused(at)
        comings[sending] = COMINGS[slip.kind]
    return comings


def _is_there(slip, turns, n):
    """Tell whether there is the sending of a slip."""
    if slip.turn not in turns or slip.machine >= n:
        return False
    block, _ = turns[slip.turn]
    return slip.lane < len(block.lanes)


def turns_of(plan, n):
    """Return the block and the number in its block of each round for n machines."""
    return [(block, t) for block in plan.blocks for t in range(block.rounds(n))]


def drift(lane, t, n):
    """Return how far the piece that a machine hands on is ahead of the machine."""
    along = t if lane.sign == "+" else -t
    return along + lane.shift(n)


def hops_in(block, t, n, piece):
    """Return who hands a piece on, to whom, and what is done there, for each lane in a round of its block."""
    hops = []
    for lane in block.lanes:
        machine = (piece - drift(lane, t, n)) % n
        hops.append((machine, (machine + STEPS[lane.way]) % n, lane.deed))
    return hops


def with_slips(hops, turn, comings):
    """Return the hops of a round, without those that are lost, and with those twice that come again."""
    return [hop for lane, hop in enumerate(hops) for _ in range(comings.get((turn, hop[0], lane), 1))]


def do_hops(cells, hops):
    """Return what the machines have of a piece after a round, from what they have at its beginning."""
    after = list(cells)
    for machine, goal, deed in hops:
        if deed == "put":
            after[goal] = cells[machine]
        else:
            after[goal] = added(after[goal], cells[machine])
    return after


def added(own, came):
    """Return the sums of two pieces, number by number."""
    return tuple([number + other for number, other in zip(own, came)])


def columns_of(rows):
    """Return for each piece what each machine has of it."""
    return [[tuple(row[low:high]) for row in rows] for low, high in cuts(len(rows[0]), len(rows))]


def rows_of(columns):
    """Return the rows of which these are the columns."""
    return tuple([
        tuple([number for column in columns for number in column[machine]])
        for machine in range(len(columns))
    ])


def sums_of(rows):
    """Return the whole sums of rows."""
    return tuple([sum([row[at] for row in rows]) for at in range(len(rows[0]))])


def are_all(rows, sums):
    """Tell whether each of the rows is the sums."""
    return all([row == sums for row in rows])


def handed_on(turns, n, length):
    """Return for each machine how many numbers it hands on, of rows of this length."""
    sizes = [high - low for low, high in cuts(length, n)]
    sent = [0] * n
    for block, t in turns:
        for lane in block.lanes:
            ahead = drift(lane, t, n)
            for machine in range(n):
                sent[machine] += sizes[(machine + ahead) % n]
    return tuple(sent)
