"""What manuals do on a case, whatever they look at, and whether two of them do the same."""

from tinkerhall.errors import TooMany
from tinkerhall.leastsigns import least_signs
from tinkerhall.reach import Reach
from tinkerhall.runs import Work

MOST_OUTCOMES = 1000


class Endings:
    """Rows of events with which runs end, told by numbers; equal rows have equal numbers."""

    def __init__(self):
        self._numbers = {}
        # For each number the first event, and the number of the rest, or None.
        self._told = []

    def number_of(self, event, rest):
        told = (event, rest)
        if told not in self._numbers:
            self._numbers[told] = len(self._told)
            self._told.append(told)
        return self._numbers[told]

    def events_of(self, number):
        """The row of events with this number."""
        events = []
        while number is not None:
            event, number = self._told[number]
            events.append(event)
        return tuple(events)


def outcomes(case, manual, world):
    """The outcomes in the world with this number, ascending."""
    reach = Reach(Work(case, manual))
    endings = Endings()
    numbers = _ends_in(reach, endings, reach.by_worlds()[world])
    return tuple(sorted([endings.events_of(number) for number in numbers]))


def manuals_alike(case, first, second):
    """None if both manuals have the same outcomes in each world; otherwise the first difference."""
    endings = Endings()
    reaches = []
    ends = []
    for manual in (first, second):
        reach = Reach(Work(case, manual))
        reaches.append(reach)
        ends.append([_ends_in(reach, endings, numbers) for numbers in reach.by_worlds()])
    for world in range(len(case)):
        if ends[0][world] != ends[1][world]:
            return _difference(reaches, endings, world, [told[world] for told in ends])
    return None


def _ends_in(reach, endings, numbers):
    """The numbers of the outcomes in a world, ascending; `numbers` has its standings, each behind its followers."""
    told = {}
    for number in numbers:
        rests = {rest: True for follower in reach.after[number] if follower in told for rest in told[follower]}
        event = reach.events[number]
        if event is not None:
            # At the end of a run there is an event, and no rest.
            rests = {endings.number_of(event, rest): True for rest in (rests or (None,))}
        # From each standing that is reached, each rest makes an outcome of its own.
        if len(rests) > MOST_OUTCOMES:
            raise TooMany("outcome")
        told[number] = sorted(rests)
    return told[0]


def _difference(reaches, endings, world, ends):
    """The least outcome that only one manual has in the world, which one, and its least row of signs."""
    lone = [(endings.events_of(number), which) for which in (0, 1) for number in ends[which]
            if number not in ends[1 - which]]
    outcome, which = min(lone)
    signs, _ = least_signs(Matching(reaches[which], outcome, world))
    return world, which, outcome, signs


class Matching:
    """The runs in a world whose events are those of an outcome, as far as they go, to be looked through."""

    def __init__(self, reach, outcome, world):
        self.start = (0, 0)
        self._reach = reach
        self._outcome = outcome
        self._world = world

    def walked(self, state):
        """The outcome, if the run comes to it ahead of its next look, and what that look can lead to."""
        number, at = state
        while True:
            after = self._reach.after_in(number, self._world)
            if self._reach.due_at(number)[0] == "look":
                return None, [(self._reach.standings[follower][2], (follower, at)) for follower in after]
            event = self._reach.events[number]
            if event is not None:
                if event != self._outcome[at]:
                    return None, []
                at += 1
            # Nothing but the last event of an outcome ends a run.
            if not after:
                return self._outcome, []
            number = after[0]
