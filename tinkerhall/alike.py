"""Whether two fillings without fleeing conditions show the same."""

from tinkerhall.checks import good_filling, good_lines, no_fleeing
from tinkerhall.drives import Drive
from tinkerhall.errors import Unlike
from tinkerhall.fields import Pairs
from tinkerhall.forms import are_signs, is_list
from tinkerhall.hunts import least_hit, listed
from tinkerhall.standings import least_table


class Alike:
    """True if both fillings are alike; it tells a table of pairs then, otherwise a row."""

    def __init__(self, plan, filling, other, other_filling, *, lines=None, other_lines=None):
        pairs = _compared(plan, filling, other, other_filling, lines, other_lines)
        self.table = listed(pairs)
        self.row = None
        if self.table is None:
            self.row, _ = least_hit(pairs)
        self._rows = () if self.table is None else self.table

    def __bool__(self):
        return self.row is None

    def __len__(self):
        return len(self._rows)

    def __iter__(self):
        return iter(self._rows)


def judge_pairs(plan, filling, other, other_filling, table, *, lines=None, other_lines=None):
    """None if the table is closed; otherwise -1 if it lacks the beginnings, or the first row that is wrong."""
    pairs = _compared(plan, filling, other, other_filling, lines, other_lines)
    rows = table if is_list(table) else ()
    good = [_is_pair(plan, other, row) for row in rows]
    there = {(tuple(row[0]), tuple(row[1])): True for row, fits in zip(rows, good) if fits}
    if pairs.start not in there:
        return -1
    for at, row in enumerate(rows):
        if not good[at] or _bars(pairs, there, (tuple(row[0]), tuple(row[1]))):
            return at
    return None


def classes(plan, fillings, lines=None):
    """The lots of numbers of fillings that are alike, ordered by their first ones."""
    for filling in fillings:
        no_fleeing(plan, good_filling(plan, filling))
    watched = good_lines(plan, lines)
    lots = {}
    for at, filling in enumerate(fillings):
        lots.setdefault(least_table(plan, filling, watched), []).append(at)
    return tuple([tuple(lots[told]) for told in lots])


def _compared(plan, filling, other, other_filling, lines, other_lines):
    """The pairs of the fillings, if they can be compared."""
    first = good_filling(plan, filling)
    no_fleeing(plan, first)
    second = good_filling(other, other_filling)
    no_fleeing(other, second)
    watched = good_lines(plan, lines)
    other_watched = good_lines(other, other_lines)
    if plan.catalogue.signs != other.catalogue.signs:
        raise Unlike("signs")
    if len(plan.entries) != len(other.entries):
        raise Unlike("entries")
    if len(watched) != len(other_watched):
        raise Unlike("lines")
    return Pairs(Drive(plan, first, watched), Drive(other, second, other_watched))


def _is_pair(plan, other, thing):
    """Whether a thing is a pair of standings, whether or not machines can have them."""
    return (is_list(thing) and len(thing) == 2 and are_signs(thing[0], plan.catalogue.signs, len(plan.keeping))
            and are_signs(thing[1], other.catalogue.signs, len(other.keeping)))


def _bars(pairs, there, pair):
    """Whether a step from this pair shows a difference, or leads to a pair that is not there."""
    return any([hits or behind not in there
                for inputs in pairs.steps for _, hits, behind in pairs.meetings(pair, inputs)])
