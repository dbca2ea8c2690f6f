"""Whether a filling acts as whole."""

from tinkerhall.checks import good_filling
from tinkerhall.drives import Drive
from tinkerhall.fields import Pairs
from tinkerhall.hunts import least_hit, listed


class Acting:
    """True if the filling acts as whole; it tells a table then, otherwise a row and comings."""

    def __init__(self, plan, filling):
        pairs = _beside_own(plan, good_filling(plan, filling))
        self.table = listed(pairs)
        self.row = None
        self.comings = None
        if self.table is None:
            self.row, self.comings = least_hit(pairs)
        self._rows = () if self.table is None else self.table

    def __bool__(self):
        return self.row is None

    def __len__(self):
        return len(self._rows)

    def __iter__(self):
        return iter(self._rows)


def acts(plan, filling):
    """Whether the exits always show what they show for the own filling."""
    return listed(_beside_own(plan, good_filling(plan, filling))) is not None


def _beside_own(plan, filling):
    return Pairs(Drive(plan, plan.own, plan.exits), Drive(plan, filling, plan.exits))
