"""Plans: blocks of rounds, and the lanes by which pieces are handed on."""

from ringsums.errors import InvalidBlock, InvalidLane, InvalidPlan, InvalidText, NoBlock
from ringsums.forms import Form
from ringsums.kinds import is_number, is_sequence

WAYS = ("up", "down")
SIGNS = ("+", "-")
DEEDS = ("add", "put")
# How far up each way leads.
STEPS = {"up": 1, "down": -1}


class Lane:
    """One way in which all machines hand on a piece in each round of a block."""

    def __init__(self, way, sign, shift, deed):
        if way not in WAYS:
            raise InvalidLane("way")
        if sign not in SIGNS:
            raise InvalidLane("sign")
        if not isinstance(shift, Form):
            raise InvalidLane("shift")
        if deed not in DEEDS:
            raise InvalidLane("deed")
        self.way = way
        self.sign = sign
        self.shift = shift
        self.deed = deed

    @property
    def follows(self):
        """Whether the piece goes on in the next round from where it came to."""
        return (self.way, self.sign) in (("up", "-"), ("down", "+"))

    def __eq__(self, other):
        return (isinstance(other, Lane) and self.way == other.way and self.sign == other.sign
                and self.shift == other.shift and self.deed == other.deed)

    def __str__(self):
        return f"{self.way} {self.sign} {self.shift} {self.deed}"


class Block:
    """So many rounds, and the lanes that are done in each of them."""

    def __init__(self, rounds, lanes):
        if not isinstance(rounds, Form):
            raise InvalidBlock("rounds")
        if not is_sequence(lanes) or len(lanes) == 0:
            raise InvalidBlock("lanes")
        if not all([isinstance(lane, Lane) for lane in lanes]):
            raise InvalidBlock("lanes")
        self.rounds = rounds
        self.lanes = tuple(lanes)

    def __eq__(self, other):
        return isinstance(other, Block) and self.rounds == other.rounds and self.lanes == other.lanes

    def __str__(self):
        return "\n".join([f"rounds {self.rounds}", *[str(lane) for lane in self.lanes]])


class Plan:
    """Blocks that are done one after another, told for every number of machines."""

    def __init__(self, blocks=()):
        if not is_sequence(blocks) or not all([isinstance(block, Block) for block in blocks]):
            raise InvalidPlan()
        self.blocks = tuple(blocks)
        # What was found out about the plan, for those who ask again: no answer depends on what is here.
        self.found = {}

    def all_rounds(self, n):
        """Return the number of all rounds for n machines."""
        return sum([max(0, block.rounds(n)) for block in self.blocks])

    def without(self, at):
        """Return the plan without one block."""
        if not self._has(at):
            raise NoBlock(at)
        return Plan(self.blocks[:at] + self.blocks[at + 1:])

    def _has(self, at):
        """Tell whether there is a block with this number."""
        return is_number(at) and at < len(self.blocks)

    def __len__(self):
        return len(self.blocks)

    def __getitem__(self, at):
        if not self._has(at):
            raise NoBlock(at)
        return self.blocks[at]

    # Without this, Python would iterate over a plan by its index.
    def __iter__(self):
        raise TypeError("a plan is not iterable")

    def __add__(self, other):
        if not isinstance(other, Plan):
            return NotImplemented
        return Plan(self.blocks + other.blocks)

    def __eq__(self, other):
        return isinstance(other, Plan) and self.blocks == other.blocks

    def __str__(self):
        return "\n".join([str(block) for block in self.blocks])

    @classmethod
    def read(cls, text):
        """Return the plan with a text."""
        # No lines at all: split would make one empty line of it.
        if text == "":
            return cls()
        return cls(_blocks_in(text.split("\n")))


def _blocks_in(lines):
    """Return the blocks that the lines of a text tell."""
    found = []
    for at, line in enumerate(lines):
        rounds = _rounds_in(line)
        lane = _lane_in(line)
        if rounds is not None and (len(found) == 0 or len(found[-1][1]) > 0):
            found.append((rounds, []))
        elif lane is not None and len(found) > 0:
            found[-1][1].append(lane)
        else:
            raise InvalidText(at)
    if len(found[-1][1]) == 0:
        raise InvalidText(len(lines))
    return [Block(rounds, lanes) for rounds, lanes in found]


def _rounds_in(line):
    """Return the form in a line of rounds, or None for any other line."""
    word, _, text = line.partition(" ")
    if word != "rounds":
        return None
    try:
        return Form.read(text)
    except InvalidText:
        return None


def _lane_in(line):
    """Return the lane that a line tells, or None for any other line."""
    words = line.split(" ")
    if len(words) != 4:
        return None
    way, sign, shift, deed = words
    try:
        return Lane(way, sign, Form.read(shift), deed)
    except (InvalidText, InvalidLane):
        return None
