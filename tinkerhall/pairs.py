"""Two drives on the same rows: the pairs of standings they have, or the row that parts them."""


class Pairs:
    """Pairs of standings of two drives, of which the first one knows no comings."""

    def __init__(self, first, second):
        self._first = first
        self._second = second
        self._start = (first.start, second.start)

    def listed(self):
        """All pairs in the order in which they are found, or None if the watched lines can differ."""
        found = {self._start: True}
        pairs = [self._start]
        at = 0
        while at < len(pairs):
            pair = pairs[at]
            at += 1
            for inputs in self._first.steps:
                for _, differs, behind in self._meetings(pair, inputs):
                    if differs:
                        return None
                    if behind not in found:
                        found[behind] = True
                        pairs.append(behind)
        return tuple(pairs)

    def parting(self):
        """The least row at whose last step the lines can differ, and its first row of comings.

        Only for drives that can differ.
        """
        goals = self._goals()
        row = self._least_row(goals)
        return row, self._first_comings(goals, row)

    def _meetings(self, pair, inputs):
        """What a step can lead to: rows (coming, whether the watched lines differ, pair behind)."""
        _, shown, own = self._first.outcomes(pair[0], inputs)[0]
        return [(coming, watched != shown, (own, behind))
                for coming, watched, behind in self._second.outcomes(pair[1], inputs)]

    def _serving(self, pair, inputs, goal):
        """The comings and pairs behind by which this step reaches the goal, ascending by comings.

        The goal is a dict of pairs, or None for the last step, where the lines are to differ.
        """
        if goal is None:
            return [(coming, behind) for coming, differs, behind in self._meetings(pair, inputs) if differs]
        return [(coming, behind) for coming, _, behind in self._meetings(pair, inputs) if behind in goal]

    def _can_serve(self, pair, goal):
        return any([self._serving(pair, inputs, goal) != [] for inputs in self._first.steps])

    def _levels(self):
        """The pairs by the fewest steps that lead to them, up to the first that can differ at once."""
        found = {self._start: True}
        levels = [[self._start]]
        while not any([self._can_serve(pair, None) for pair in levels[-1]]):
            level = []
            for pair in levels[-1]:
                for inputs in self._first.steps:
                    for _, _, behind in self._meetings(pair, inputs):
                        if behind not in found:
                            found[behind] = True
                            level.append(behind)
            levels.append(level)
        return levels

    def _goals(self):
        """For each step of a shortest row, the pairs behind it from which the rest can be done."""
        levels = self._levels()
        goals = [None]
        for depth in reversed(range(1, len(levels))):
            goals = [{pair: True for pair in levels[depth] if self._can_serve(pair, goals[0])}, *goals]
        return goals

    def _least_row(self, goals):
        row = []
        pairs = [self._start]
        for goal in goals:
            for inputs in self._first.steps:
                met = {behind: True for pair in pairs for _, behind in self._serving(pair, inputs, goal)}
                if met:
                    break
            row.append(inputs)
            pairs = list(met)
        return tuple(row)

    def _first_comings(self, goals, row):
        fitting = [None]
        for depth in reversed(range(1, len(row))):
            fitting = [{pair: True for pair in goals[depth - 1] if self._serving(pair, row[depth], fitting[0])},
                       *fitting]
        comings = []
        pair = self._start
        for inputs, goal in zip(row, fitting):
            coming, pair = self._serving(pair, inputs, goal)[0]
            comings.append(coming)
        return tuple(comings)
