"""A plan whose places act freely, each at each step by any of some tables."""

from tinkerhall.drives import wires_of


class Walk:
    """Tells the standings that are left while certain signs are seen; `conditions` has some for each place."""

    def __init__(self, plan, kinds, conditions):
        told = [plan.catalogue[kind] for kind in kinds]
        given = [_given(kind, some) for kind, some in zip(told, conditions)]
        wires = [(spot, sources, signs) for (_, spot, sources), signs in zip(wires_of(plan), given)]
        self.start = tuple([kind.start for kind in told if kind.keeps])
        self._signs = plan.catalogue.signs
        self._blank = [0] * len(wires)
        self._loose = [wires[at] for at in plan.order]
        self._kept = [wires[at] for at, kind in enumerate(told) if kind.keeps]

    def behind(self, standings, inputs, wanted):
        """The standings behind a step, of any of these, that shows the wanted signs: pairs of a line and a sign."""
        met = {}
        for standing in standings:
            for shown in self._shown(standing, inputs, wanted):
                for behind in self._keepings(shown):
                    met[behind] = True
        return list(met)

    def _shown(self, standing, inputs, wanted):
        """All rows of signs that the lines can show in a step, if they show what is wanted."""
        begun = [*inputs, *self._blank]
        for (spot, _, _), kept in zip(self._kept, standing):
            begun[spot] = kept
        rows = [tuple(begun)]
        for spot, sources, signs in self._loose:
            rows = [(*row[:spot], sign, *row[spot + 1:]) for row in rows for sign in signs[self._at(row, sources, 0)]]
        return [row for row in rows if all([row[line] == sign for line, sign in wanted])]

    def _keepings(self, shown):
        """All rows of signs that the places that keep can have behind a step with these signs."""
        rows = [()]
        for spot, sources, signs in self._kept:
            rows = [(*row, sign) for row in rows for sign in signs[self._at(shown, sources, shown[spot])]]
        return rows

    def _at(self, shown, sources, kept):
        """The index in a table; the kept sign is 0 where a place does not keep."""
        at = kept
        for source in sources:
            at = at * self._signs + shown[source]
        return at


def _given(kind, conditions):
    """For each index the signs that a part in one of these conditions can give or keep, ascending."""
    tables = [table for condition in conditions for table in kind.tables(condition)]
    return [sorted({table[at] for table in tables}) for at in range(len(kind.table))]
