"""Two drives on the same rows, as fields for a hunt."""


class Pairs:
    """Pairs of standings of two drives, of which the first one knows no comings.

    Labels are comings of the second one; a step that shows a difference is a hit.
    """

    def __init__(self, first, second):
        self.start = (first.start, second.start)
        self.steps = first.steps
        self._first = first
        self._second = second

    def meetings(self, state, inputs):
        """What a step can lead to: rows (coming, whether the watched lines differ, pair behind)."""
        _, shown, own = self._first.outcomes(state[0], inputs)[0]
        return [(coming, watched != shown, (own, behind))
                for coming, watched, behind in self._second.outcomes(state[1], inputs)]


class Uncovered:
    """A standing of the other drive, with those of the own one behind the same showing.

    Labels are what the watched lines show; a step of the other drive that the own one cannot show is a hit.
    """

    def __init__(self, own, other):
        self.start = (other.start, (own.start,))
        self.steps = own.steps
        self._own = own
        self._other = other

    def meetings(self, state, inputs):
        """What a step can lead to: rows (signs shown, whether only the other one shows them, state behind)."""
        shared = self._own.spread(state[1], inputs)
        return [(watched, watched not in shared, (behind, shared.get(watched, ())))
                for _, watched, behind in self._other.outcomes(state[0], inputs)]


class Shared:
    """The pairs of standings that both drives can have behind the same showing.

    It knows one label; a step behind which no pair is left is a hit.
    """

    def __init__(self, first, second):
        self.start = ((first.start, second.start),)
        self.steps = first.steps
        self._first = first
        self._second = second

    def meetings(self, state, inputs):
        """The one thing that a step leads to: a row (label, whether no pair is left, pairs behind)."""
        met = {}
        for one, two in state:
            shown = self._second.spread((two,), inputs)
            for watched, behind in self._first.spread((one,), inputs).items():
                for pair in [(left, right) for left in behind for right in shown.get(watched, ())]:
                    met[pair] = True
        return [((), not met, tuple(sorted(met)))]
