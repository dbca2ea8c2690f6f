"""Kinds of parts, and catalogues of kinds."""

from tinkerhall.errors import BadKind, BadName, BadSigns, TooMany, Twice, Unknown, Unlike
from tinkerhall.forms import are_different, are_signs, is_list, is_number
from tinkerhall.signs import is_name

MOST_KINDS = 8
MOST_PRICE = 600
MOST_WAYS = 6


class Kind:
    """A kind of part: a small table, and the ways in which it can be broken."""

    def __init__(self, signs, name, inputs, table, *, start=None, ways=(), price=0):
        if not is_number(signs, 2, 3):
            raise BadSigns(signs)
        if not is_name(name):
            raise BadName(name)
        if not _is_table(signs, inputs, start, table) or not is_number(price, 0, MOST_PRICE):
            raise BadKind(name)
        if not _are_ways(ways, signs, tuple(table)):
            raise BadKind(name)
        self.signs = signs
        self.name = name
        self.inputs = inputs
        self.table = tuple(table)
        self.start = start
        self.ways = tuple([(word, label, tuple(broken)) for word, label, broken in ways])
        self.price = price

    @property
    def keeps(self):
        return self.start is not None

    def __len__(self):
        return len(self.ways)

    def __eq__(self, other):
        return (isinstance(other, Kind) and self.signs == other.signs and self.name == other.name
                and self.inputs == other.inputs and self.table == other.table and self.start == other.start
                and self.ways == other.ways and self.price == other.price)

    def spot(self, inputs, kept=0):
        """The index in the table; what does not keep has no kept sign in it."""
        at = kept if self.keeps else 0
        for sign in inputs:
            at = at * self.signs + sign
        return at

    def tables(self, condition):
        """The tables by which a part in this condition can act, the kind's own one first."""
        if condition == 0:
            return (self.table,)
        broken = self.ways[condition - 1][2]
        return (self.table, broken) if self.flees(condition) else (broken,)

    def flees(self, condition):
        return condition > 0 and self.ways[condition - 1][0] == "flees"


class Catalogue:
    """A row of kinds with the same signs and different names."""

    def __init__(self, signs, kinds=()):
        if not is_number(signs, 2, 3):
            raise BadSigns(signs)
        if len(kinds) > MOST_KINDS:
            raise TooMany("kind")
        for kind in kinds:
            if kind.signs != signs:
                raise Unlike(kind.name)
        names = [kind.name for kind in kinds]
        for at, name in enumerate(names):
            if name in names[:at]:
                raise Twice(name)
        self.signs = signs
        self.kinds = tuple(kinds)
        self._names = tuple(names)

    def __getitem__(self, at):
        for kind in self.kinds:
            if kind.name == at:
                return kind
        raise Unknown(at)

    def __contains__(self, x):
        return x in self._names

    def __len__(self):
        return len(self.kinds)

    def __iter__(self):
        return iter(self.kinds)

    def __eq__(self, other):
        return isinstance(other, Catalogue) and self.signs == other.signs and self.kinds == other.kinds

    def __add__(self, other):
        return Catalogue(self.signs, (*self.kinds, other))


def _is_table(signs, inputs, start, table):
    if not is_number(inputs, 0, 2) or not (start is None or is_number(start, 0, signs - 1)):
        return False
    size = 1 if start is None else signs
    for _ in range(inputs):
        size = size * signs
    return are_signs(table, signs, size)


def _are_ways(ways, signs, table):
    if not is_list(ways) or len(ways) > MOST_WAYS:
        return False
    if not all([_is_way(way, signs, table) for way in ways]):
        return False
    return are_different([way[1] for way in ways])


def _is_way(way, signs, table):
    if not is_list(way) or len(way) != 3 or not is_name(way[1]) or not are_signs(way[2], signs, len(table)):
        return False
    return way[0] in ("stands", "flees") and tuple(way[2]) != table
