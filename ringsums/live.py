"""Live rings: the rounds of a plan are done one by one, machines fall out, and what was done is taken back."""

from ringsums.errors import Refused
from ringsums.kinds import is_number
from ringsums.plays import are_all, check_rows, comings_of, rows_after, sums_of, turns_of


class Trial:
    """A context manager: when its block is left, a ring is as it was when it was entered."""

    def __init__(self, ring):
        self.ring = ring

    def __enter__(self):
        ring = self.ring
        self.plan = ring.plan
        self.firsts = ring.firsts
        self.rows = ring.rows
        self.done = ring.done
        self.left = ring.left
        self.is_right = ring.is_right
        self.past = ring.past
        return ring

    def __exit__(self, kind, value, trace):
        ring = self.ring
        ring.plan = self.plan
        ring.firsts = self.firsts
        ring.rows = self.rows
        ring.done = self.done
        ring.left = self.left
        ring.is_right = self.is_right
        ring.past = self.past


class Ring:
    """A ring at work."""

    def __init__(self, plan, rows):
        check_rows(rows)
        firsts = tuple([tuple(row) for row in rows])
        self._stand(plan, firsts, firsts, 0)
        # What is to be restored when the deeds are taken back, the last one at the end.
        self.past = ()

    def _stand(self, plan, firsts, rows, done):
        """Have so many rounds of a plan done, by which the first rows became these."""
        left = plan.all_rounds(len(firsts)) - done
        self.plan = plan
        self.firsts = firsts
        self.rows = rows
        self.done = done
        self.left = left
        self.is_right = are_all(rows, sums_of(firsts))

    def _do(self, plan, firsts, rows, done):
        """Stand otherwise, by a deed that can be taken back."""
        past = (*self.past, (self.plan, self.firsts, self.rows, self.done))
        self._stand(plan, firsts, rows, done)
        self.past = past

    def step(self, slips=()):
        """Do the next round, and return how many numbers were handed on."""
        if self.left == 0:
            raise Refused(-1)
        block, t = self._turns_left()[self.done]
        turns = {self.done: (block, t)}
        rows = rows_after(self.rows, turns, comings_of(slips, turns, len(self.rows)))
        self._do(self.plan, self.firsts, rows, self.done + 1)
        # By each lane, each piece is handed on by one of the machines.
        return len(block.lanes) * len(rows[0])

    def rest(self):
        """Do all rounds that are left, and return the rows."""
        self._do(self.plan, self.firsts, self._rows_in_the_end(), self.done + self.left)
        return self.rows

    def _rows_in_the_end(self):
        """Return the rows after all rounds that are left."""
        return rows_after(self.rows, self._turns_left(), {})

    def _turns_left(self):
        """Return the rounds that are left, by their numbers."""
        turns = turns_of(self.plan, len(self.rows))
        return {turn: turns[turn] for turn in range(self.done, len(turns))}

    def fall(self, machine):
        """Close the ring anew without a machine, and begin anew."""
        if not is_number(machine) or machine >= len(self.firsts) or len(self.firsts) == 1:
            raise Refused(machine)
        firsts = self.firsts[:machine] + self.firsts[machine + 1:]
        self._do(self.plan, firsts, firsts, 0)

    def change(self, plan):
        """Begin anew with another plan."""
        self._do(plan, self.firsts, self.firsts, 0)

    def hopes(self):
        """Tell whether all rows are the whole sums in the end if nothing goes wrong any more."""
        return are_all(self._rows_in_the_end(), sums_of(self.firsts))

    def __len__(self):
        return len(self.past)

    def undo(self):
        """Take back the last deed, and return whether there was one."""
        if len(self.past) == 0:
            return False
        plan, firsts, rows, done = self.past[-1]
        self._stand(plan, firsts, rows, done)
        self.past = self.past[:-1]
        return True

    def trial(self):
        """Return a new context manager that leaves the ring as it was when it was entered."""
        return Trial(self)

    def within(self, work):
        """Return what some work with the ring returns, and leave the ring as it was."""
        with Trial(self) as ring:
            return work(ring)
