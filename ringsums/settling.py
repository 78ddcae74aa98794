"""Settling: from which number of machines on plans do the same again, told by their very forms.

The bound of the document holds for all plans with the same F, D and S; most plans settle far earlier. From where on is
told here, by the same idea. Let a *part* be an F-th part of the ring, with n / F cells.

1. Gaps. A shift is a number of parts but for at most `start` cells, the rounds of a block are but for at most `last`.
   So sweeps begin at parts but for start cells, end there but for start + last cells, and two of one block that come
   towards each other meet there but for start + 2 cells. Let `reach` be start + last + 2. Cells that are more than
   reach off all parts lie in gaps: in a gap all cells are read and written by the same sweeps, in the same order.

2. Near the parts. The round in which a sweep reads or writes a cell there is a number of parts, but for at most
   reach + start + 2. If a part has more than twice as many cells, the numbers of parts tell which round is earlier, and
   where these are equal, the rest tells, which is the same for n and n + F. So with n + F all is as with n, but for one
   more cell in each gap.

3. Ways through w cells of a gap. A way is a list of sweeps; by each of them a number comes one cell up or down. Each is
   linked to the next one: that one reads the cell after this one wrote, and nothing is put there in between. A sweep
   that follows can stand several times in a row: a ride. One that does not follow stands there once; let H be how many
   of these pass a gap. (One that follows, but is overwritten at once, can only end a way.) For w from 2 H + 3 on, there
   are none, one or more ways from one sweep to another one through w + 1 cells just if there are so through w:
   - A cell where a way only rides on can be left out. Between two cells where it only rides one can be put in; these
     are all but H + 1 pairs of neighbours.
   - If a, g, b are linked and g can be ridden, a and b are linked. So if two rides stand side by side in a way of more
     than two sweeps, one of them can be left out, and the other one made longer or shorter (or left out, too). A way in
     which the sweeps change least often has no such rides: they change at most 2 H + 1 times. In a second way with the
     fewest changes of all others they change at most twice more. So there are cells that can be left out, in the first
     way at least two. If the two ways get the same by this, it depends on which cell is left out of the first one.

4. The machines where a number comes from and where it goes to divide a gap into three pieces at most. If it has
   3 (2 H + 3) + 2 cells, one piece has 2 H + 3 without them, and one cell more or less there changes nothing. It has so
   many if a part has 2 reach + 6 H + 12.
"""


def settled_from(period, plans):
    """Return a number of machines from which on plans do the same again with so many more."""
    blocks = [block for plan in plans for block in plan.blocks]
    start = _farthest([lane.shift for block in blocks for lane in block.lanes])
    reach = start + _farthest([block.rounds for block in blocks]) + 2
    single = max([int(_single_sweeps(plan)) for plan in plans])
    return period * (2 * reach + max(int(2 * start + 5), 6 * single + 12))


def _farthest(forms):
    """Return how far forms can be off a number of parts."""
    return max([int((abs(form.plus) + 2 * form.by - 2) // form.by) for form in forms], default=0)


def _single_sweeps(plan):
    """Return how many sweeps that do not follow can pass a cell in a gap."""
    return sum([
        -(-block.rounds.times // block.rounds.by)
        for block in plan.blocks if block.rounds.times > 0 for lane in block.lanes if not lane.follows
    ])
