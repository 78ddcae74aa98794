"""What several tests use: the plans of the document, any values, and plays and tables told straight."""

import doctest

from ringsums.calendars import Calendar
from ringsums.desk import Desk
from ringsums.forms import Form
from ringsums.live import Ring
from ringsums.plans import Block, Lane, Plan
from ringsums.plays import Slip, play

ONCE = "rounds n-1\nup - 0 add\nrounds n-1\nup - 1 put"
HALF = (
    "rounds (n)/2\nup - (n)/2 add\ndown + (n+1)/2 add\n"
    "rounds (n)/2\nup - 0 put\ndown + 0 put"
)

# Several lanes, both ways, both signs, both deeds, a put ahead of an add, and a block of no rounds for few machines.
MIXED = (
    "rounds n-2\nup + 1 add\ndown + n-1 put\n"
    "rounds 2\ndown - -1 put\nup - (3n-1)/2 add\nup - 0 add\n"
    "rounds 1\ndown + 2 add"
)

# Right for all n: as half, but with an even n the one opposite is added from one side only.
FAIR = (
    "rounds (n)/2\nup - (n)/2 add\nrounds (n-1)/2\ndown + (n+2)/2 add\n"
    "rounds (n)/2\nup - 0 put\ndown + 0 put"
)

TEXTS = {
    "once": ONCE,
    "half": HALF,
    "mixed": MIXED,
    "up plus": "rounds n\nup + 0 add",
    "up minus": "rounds n+1\nup - n-1 put\nrounds 2\nup - 0 add",
    "down plus": "rounds (n+1)/2\ndown + -2 add",
    "down minus": "rounds 3\ndown - (n)/2 add",
    "both ways": "rounds n\nup + 0 add\ndown - 1 add",
    "put ahead of add": "rounds 3\nup - 0 put\nup - 0 add",
    "add ahead of put": "rounds 3\nup - 0 add\nup - 0 put",
    "from both sides": "rounds n\nup - 1 put\ndown + n+1 add\nup + 2 add",
    "no rounds": "rounds -3\nup + 0 add",
    "nothing": "",
}


def nested(depth):
    """Return a list that is nested so deep."""
    value = [1]
    for _ in range(depth - 1):
        value = [value]
    return value


def any_values():
    """Return values of every kind."""
    lane = Lane("up", "+", Form(1), "add")
    block = Block(Form(1), [lane])
    return [
        None, True, False, 0, 1, -1, 7, 10 ** 9, "", "n", "up", "+", "add", "lost", "times", [], (), [None], (0,),
        [True], [[]], ((),), [[1, 2], [3]], [lane, 1], (block, lane), nested(8), lane, block, Form(), Form(0, 1),
        Plan(), Plan([block]), Slip("lost", 0, 0, 0), Calendar(), Calendar([1], 3, 2, [1]), Desk(),
        Ring(Plan(), [[1], [2]]), play(Plan(), [[1], [2]]),
    ]


def examples_outcome(text, name):
    """Return how many examples of a text failed and how many there are; what section 1 names is there."""
    names = {"Plan": Plan, "once": Plan.read(ONCE), "half": Plan.read(HALF)}
    test = doctest.DocTestParser().get_doctest(text, names, name, None, None)
    outcome = doctest.DocTestRunner().run(test)
    return outcome.failed, outcome.attempted


def straight_course(plan, rows, slips=()):
    """Return the rows ahead of each round and in the end, machine by machine and number by number, as it is told."""
    n = len(rows)
    length = len(rows[0])
    rows = [list(row) for row in rows]
    course = [tuple(tuple(row) for row in rows)]
    wrong = {(slip.turn, slip.machine, slip.lane): slip.kind for slip in slips}
    for block in plan.blocks:
        for t in range(max(0, block.rounds(n))):
            start = [list(row) for row in rows]
            for at, lane in enumerate(block.lanes):
                for i in range(n):
                    shift = lane.shift(n)
                    piece = (i + t + shift) % n if lane.sign == "+" else (i - t + shift) % n
                    goal = (i + 1) % n if lane.way == "up" else (i - 1) % n
                    kind = wrong.get((len(course) - 1, i, at))
                    for _ in range({"lost": 0, "again": 2, None: 1}[kind]):
                        for place in range(piece * length // n, (piece + 1) * length // n):
                            if lane.deed == "add":
                                rows[goal][place] += start[i][place]
                            else:
                                rows[goal][place] = start[i][place]
            course.append(tuple(tuple(row) for row in rows))
    return course


def straight_play(plan, rows, slips=()):
    """Return the rows in the end."""
    return straight_course(plan, rows, slips)[-1]


def straight_tables(plan, n):
    """Return for each machine the table that it has in the end, by a play in which each number is told by a digit."""
    # No number grows more than fivefold in a round of at most four lanes.
    base = 1 << (3 * plan.all_rounds(n) + 1)
    rows = straight_play(plan, [[base ** i] * n for i in range(n)])
    return [
        tuple(tuple(rows[i][(i + d) % n] // base ** ((i + e) % n) % base for e in range(n)) for d in range(n))
        for i in range(n)
    ]


def straight_faults(table):
    """Return the faults of a table."""
    counts = [count for line in table for count in line]
    return ("doubled",) * (max(counts) > 1) + ("lacking",) * (min(counts) == 0)


def sendings(plan, n):
    """Return turn, machine and lane of all sendings, ascending."""
    blocks = [block for block in plan.blocks for _ in range(max(0, block.rounds(n)))]
    return [
        (turn, machine, lane)
        for turn, block in enumerate(blocks) for machine in range(n) for lane in range(len(block.lanes))
    ]


def sample_rows(n, length):
    """Return rows in which all numbers are different, some below 0."""
    return [[(machine + 2) * 1000 ** (machine % 2) - 37 * at for at in range(length)] for machine in range(n)]


class ErrorChecks:
    """For test cases: which error is raised, and what it keeps."""

    def check_word(self, error, word, call, *args, **more):
        with self.assertRaises(error) as caught:
            call(*args, **more)
        self.assertEqual(caught.exception.word, word)

    def check_at(self, error, at, call, *args, **more):
        with self.assertRaises(error) as caught:
            call(*args, **more)
        self.assertIs(caught.exception.__class__, error)
        self.assertEqual(caught.exception.at, at)
