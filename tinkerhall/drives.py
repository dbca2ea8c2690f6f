"""A plan and a good filling made ready to be driven through many steps."""

from tinkerhall.signs import all_steps


class Drive:
    """Answers what the lines show, and keeps what it has worked out."""

    def __init__(self, plan, filling, watched=()):
        kinds = [plan.catalogue[name] for name, _ in filling]
        fleeing = [kind.flees(pair[1]) for kind, pair in zip(kinds, filling)]
        self.signs = plan.catalogue.signs
        self.steps = all_steps(self.signs, len(plan.entries))
        self.comings = _comings(fleeing)
        self.start = tuple([kind.start for kind in kinds if kind.keeps])
        wires = [(*wire, (kind.tables(pair[1])[0], kind.tables(pair[1])[-1]))
                 for wire, kind, pair in zip(wires_of(plan), kinds, filling)]
        self._loose = [wires[at] for at in plan.order]
        self._kept = [wires[at] for at, kind in enumerate(kinds) if kind.keeps]
        self._kept_spots = [wire[1] for wire in self._kept]
        self._blank = [0] * len(filling)
        self._watched = [plan.lines.index(name) for name in watched]
        self._outcomes = {}
        self._spreads = {}

    def moved(self, standing, inputs, coming):
        """The signs of all lines in a step, and the standing behind it."""
        shown = [*inputs, *self._blank]
        for spot, sign in zip(self._kept_spots, standing):
            shown[spot] = sign
        for number, spot, sources, tables in self._loose:
            at = 0
            for source in sources:
                at = at * self.signs + shown[source]
            shown[spot] = tables[coming[number]][at]
        behind = []
        for number, spot, sources, tables in self._kept:
            at = shown[spot]
            for source in sources:
                at = at * self.signs + shown[source]
            behind.append(tables[coming[number]][at])
        return tuple(shown), tuple(behind)

    def seen(self, standing, inputs, coming):
        """The signs of the watched lines in a step, and the standing behind it."""
        shown, behind = self.moved(standing, inputs, coming)
        return tuple([shown[spot] for spot in self._watched]), behind

    def outcomes(self, standing, inputs):
        """What a step can lead to: rows (coming, signs of the watched lines, standing behind).

        Each outcome is told once, with its first coming, ascending by these.
        """
        told = (standing, inputs)
        if told not in self._outcomes:
            first = {}
            for coming in self.comings:
                first.setdefault(self.seen(standing, inputs, coming), coming)
            self._outcomes[told] = [(coming, watched, behind) for (watched, behind), coming in first.items()]
        return self._outcomes[told]

    def spread(self, standings, inputs):
        """From any of these standings: for what the watched lines can show, the standings behind."""
        told = (standings, inputs)
        if told not in self._spreads:
            met = {}
            for standing in standings:
                for _, watched, behind in self.outcomes(standing, inputs):
                    met.setdefault(watched, {})[behind] = True
            self._spreads[told] = {watched: tuple(sorted(met[watched])) for watched in met}
        return self._spreads[told]

    def reached(self):
        """The standings, in the order in which they are found."""
        found = {self.start: True}
        listed = [self.start]
        at = 0
        while at < len(listed):
            standing = listed[at]
            at += 1
            for inputs in self.steps:
                for _, _, behind in self.outcomes(standing, inputs):
                    if behind not in found:
                        found[behind] = True
                        listed.append(behind)
        return listed


def _comings(fleeing):
    """All comings that are 0 where nothing flees, ascending."""
    comings = [()]
    for flees in fleeing:
        comings = [(*begun, come) for begun in comings for come in ((0, 1) if flees else (0,))]
    return comings


def wires_of(plan):
    """For each place its number, its line, and the lines of its sources, as numbers."""
    return [(number, len(plan.entries) + number, [plan.lines.index(source) for source in place[2]])
            for number, place in enumerate(plan.places)]
