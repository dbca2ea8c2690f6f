"""What a filling shows on all rows: compared with what another one shows."""

from tinkerhall.checks import good_filling, good_lines
from tinkerhall.drives import Drive
from tinkerhall.errors import TooMany, Unlike
from tinkerhall.fields import Shared, Uncovered
from tinkerhall.forms import are_signs, is_list
from tinkerhall.hunts import least_hit, listed
from tinkerhall.signs import is_row

MOST_KEEPING_TO_COVER = 2
MOST_KEEPING_TO_PART = 1


class Covering:
    """True if a behaviour covers another one; otherwise it tells a row and a showing."""

    def __init__(self, row, showing):
        self.row = row
        self.showing = showing

    def __bool__(self):
        return self.row is None


class Behaviour:
    """A filling with watched lines; it contains the pairs of a row and one of its showings."""

    def __init__(self, plan, filling, *, lines=None):
        self.plan = plan
        self.filling = good_filling(plan, filling)
        self.watched = good_lines(plan, lines)
        self._drive = Drive(plan, self.filling, self.watched)

    def __contains__(self, x):
        if not is_list(x) or len(x) != 2:
            return False
        row, showing = x
        if not is_row(row, self.plan.catalogue.signs, len(self.plan.entries)):
            return False
        if not _is_showing(showing, len(row), self.plan.catalogue.signs, len(self.watched)):
            return False
        standings = [self._drive.start]
        for inputs, wanted in zip(row, showing):
            standings = _standings_behind(self._drive, standings, tuple(inputs), tuple(wanted))
        return standings != []

    def __eq__(self, other):
        return (isinstance(other, Behaviour) and self.plan == other.plan and self.filling == other.filling
                and self.watched == other.watched)

    def covers(self, other):
        """Whether every showing of the other one is one of this one, as a Covering."""
        if len(self.plan.keeping) > MOST_KEEPING_TO_COVER:
            raise TooMany("keep")
        _judge_unlike(self, other)
        field = Uncovered(_drive_of(self), _drive_of(other))
        if listed(field) is not None:
            return Covering(None, None)
        row, showing = least_hit(field)
        return Covering(row, showing)


class Parting:
    """True if some row surely parts two behaviours, which it tells; otherwise it tells a table."""

    def __init__(self, first, second):
        _judge_unlike(first, second)
        if len(first.plan.keeping) > MOST_KEEPING_TO_PART:
            raise TooMany("keep")
        field = Shared(_drive_of(first), _drive_of(second))
        self.table = listed(field)
        self.row = None
        if self.table is None:
            self.row, _ = least_hit(field)
        self._rows = () if self.table is None else self.table

    def __bool__(self):
        return self.row is not None

    def __len__(self):
        return len(self._rows)

    def __iter__(self):
        return iter(self._rows)


def _judge_unlike(first, second):
    if first.plan != second.plan:
        raise Unlike("plans")
    if first.watched != second.watched:
        raise Unlike("lines")


def _drive_of(behaviour):
    return Drive(behaviour.plan, behaviour.filling, behaviour.watched)


def _is_showing(thing, steps, signs, width):
    return is_list(thing) and len(thing) == steps and all([are_signs(shown, signs, width) for shown in thing])


def _standings_behind(drive, standings, inputs, wanted):
    """The standings behind a step that shows what is wanted; it keeps nothing in the drive."""
    met = {}
    for standing in standings:
        for coming in drive.comings:
            watched, behind = drive.seen(standing, inputs, coming)
            if watched == wanted:
                met[behind] = True
    return list(met)
