"""Whether a manual is let in: whatever is read in whatever world, it does what it should, in time."""

from tinkerhall.arrangements import are_worlds, is_arrangement
from tinkerhall.errors import BadLimit
from tinkerhall.faults import Faults
from tinkerhall.forms import as_tuples, is_count, is_list, is_number
from tinkerhall.leastsigns import least_signs
from tinkerhall.reach import Reach
from tinkerhall.runs import Work
from tinkerhall.totals import bills_by_world, most_from

MOST_LIMIT = 10000


class Verdict:
    """True if the manual is let in; it tells a table then, otherwise the least breach."""

    def __init__(self, case, manual, limit, *, strict=True):
        work = Work(case, manual)
        if not is_number(limit, 0, MOST_LIMIT):
            raise BadLimit(limit)
        reach = Reach(work)
        most = most_from(reach)
        self.breach = _least_breach(reach, Faults(work, strict), limit, most[0])
        self.table = None
        if self.breach is None:
            self.table = tuple([(*standing, more) for standing, more in zip(reach.standings, most)])
        self._rows = () if self.table is None else self.table

    def __bool__(self):
        return self.breach is None

    def __len__(self):
        return len(self._rows)

    def __iter__(self):
        return iter(self._rows)


def judge_table(case, manual, limit, table, *, strict=True):
    """None if the table is right; otherwise -1 if it lacks the beginning, or the first row that is wrong."""
    work = Work(case, manual)
    faults = Faults(work, strict)
    rows = table if is_list(table) else ()
    told = [as_tuples(row) if _is_row(work, row) else None for row in rows]
    first = {}
    for row in told:
        if row is not None:
            first.setdefault(row[:4], row[4])
    begins = [row for row in told if row is not None and row[:4] == work.first_standing() and row[4] <= limit]
    if not begins:
        return -1
    for at, row in enumerate(told):
        if row is None or not _is_right(work, faults, first, row):
            return at
    return None


class Breaking:
    """The runs in a world, each up to its first step that breaks the manual, to be looked through."""

    def __init__(self, reach, faults, limit, world):
        self.start = (0, 0)
        self._reach = reach
        self._faults = faults
        self._limit = limit
        self._world = world

    def walked(self, state):
        """The word by which a run breaks ahead of its next look, and what that look can lead to."""
        number, minutes = state
        while minutes <= self._limit:
            word = self._faults.word_in(self._reach.standings[number], self._world)
            if word is not None:
                return word, []
            minutes = minutes + self._reach.bills[number].minutes
            after = self._reach.after_in(number, self._world)
            if self._reach.due_at(number)[0] == "look":
                # Where it is late, the look has read its sign.
                return None, [(self._reach.standings[follower][2], (follower, minutes)) for follower in after]
            if not after:
                return None, []
            number = after[0]
        return "late", []


def _least_breach(reach, faults, limit, most):
    """The least breach, or None; `most` are the most minutes of a run in any world."""
    broken = {world: True for standing in reach.standings for world in faults.worlds_broken(standing)}
    if most > limit:
        late = [world for world, told in enumerate(bills_by_world(reach)) if told[1] > limit]
        broken[late[0]] = True
    if not broken:
        return None
    world = min(list(broken))
    signs, word = least_signs(Breaking(reach, faults, limit, world))
    return word, world, signs


def _is_row(work, thing):
    """Whether a thing tells a standing, which need not be one that is reached, and minutes."""
    if not is_list(thing) or len(thing) != 5:
        return False
    step, arrangement, sign, left, more = thing
    signs = work.case.plan.catalogue.signs
    return (is_number(step, 0, len(work.steps) - 1) and is_arrangement(work.case, arrangement)
            and is_number(sign, -1, signs - 1) and are_worlds(work.case, left) and is_count(more))


def _is_right(work, faults, first, row):
    """Whether a row is right by itself; `first` tells the minutes of all standings that the table has."""
    standing = row[:4]
    if not standing[3] or faults.worlds_broken(standing):
        return False
    followers, _, bill = work.expanded(standing)
    if not all([follower in first for follower in followers]):
        return False
    return row[4] == bill.minutes + max([0, *[first[follower] for follower in followers]])
