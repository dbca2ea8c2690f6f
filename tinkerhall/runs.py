"""Runs of manuals on cases."""

from tinkerhall.bill import Bill
from tinkerhall.errors import BadSign
from tinkerhall.flows import flow
from tinkerhall.forms import is_list, is_number
from tinkerhall.readings import Readings


class Run:
    """A run that has ended, or that asks for a sign."""

    def __init__(self, signs, events, arrangement, sign, bill, step, ended):
        self.signs = signs
        self.events = events
        self.arrangement = arrangement
        self.sign = sign
        self.bill = bill
        self.step = step
        self.ended = ended

    @property
    def deeds(self):
        return tuple([event for event in self.events if event[0] != "look"])

    def __eq__(self, other):
        return (isinstance(other, Run) and self.signs == other.signs and self.events == other.events
                and self.arrangement == other.arrangement and self.sign == other.sign and self.bill == other.bill
                and self.step == other.step and self.ended == other.ended)


class Work:
    """A manual on a case, ready to be done."""

    def __init__(self, case, manual):
        manual.fits(case.plan)
        self.case = case
        self.steps = flow(manual)
        self._rows = {name: row for name, row in manual.tests}
        self._readings = Readings(case)

    def begun(self):
        """The run up to its first look, or its end."""
        return self._gone_on(Run((), (), self.case.arrangement, -1, Bill(), 0, "asks"))

    def read(self, run, sign):
        """A run that asks, gone on with this sign to its next look, or its end."""
        _, test, line, behind = self.steps[run.step]
        bill = run.bill + self._bill_of_look(test)
        return self._gone_on(Run((*run.signs, sign), (*run.events, ("look", test, line, sign)), run.arrangement, sign,
                                 bill, behind, "asks"))

    def readable_in(self, step, arrangement, world):
        """The signs that can be read at a look, ascending."""
        _, test, line, _ = self.steps[step]
        return self._readings.signs_in(self._rows[test], line, arrangement, world)

    def first_standing(self):
        """The standing with which the manual begins."""
        return 0, self.case.arrangement, -1, tuple(range(len(self.case)))

    def expanded(self, standing):
        """What is due in a standing: its followers, the event of the step but of a look, or None, and its bill."""
        step, arrangement, sign, left = standing
        due = self.steps[step]
        if due[0] == "look":
            parted = self._readings.parted(self._rows[due[1]], due[2], arrangement, left)
            return [(due[3], arrangement, told, worlds) for told, worlds in parted], None, self._bill_of_look(due[1])
        then, behind, event, bill = self.done_at(step, arrangement, sign)
        return [] if then is None else [(then, behind, sign, left)], event, bill

    def done_at(self, step, arrangement, sign):
        """What a step that is no look does: a row (next step, arrangement behind, event, bill).

        The next step is None if the run ends, the event None if there is none.
        """
        due = self.steps[step]
        word = due[0]
        if word == "if":
            return due[2] if sign in due[1] else due[3], arrangement, None, Bill()
        if word in ("done", "quit"):
            return None, arrangement, (word,), Bill()
        if word == "say":
            return due[2], arrangement, (word, due[1], self._part_in(due[1], arrangement)), Bill()
        return self._swapped(due, arrangement) if word == "swap" else self._put_back(due, arrangement)

    def _swapped(self, due, arrangement):
        _, place, then = due
        behind = self.case.swapped(place, arrangement)
        if behind is None:
            return None, arrangement, ("lack", place), Bill()
        part = self._part_in(place, behind)
        return then, behind, ("swap", place, part), Bill(self._minutes(place), self._price(part))

    def _put_back(self, due, arrangement):
        _, place, then = due
        behind = self.case.put_back(place, arrangement)
        if behind == arrangement:
            return then, arrangement, None, Bill()
        event = ("back", place, self._part_in(place, behind))
        return then, behind, event, Bill(self._minutes(place)) - Bill(0, self._price(self._part_in(place, arrangement)))

    def _gone_on(self, run):
        """The run from its step on to its next look, or its end."""
        step, arrangement, events, bill = run.step, run.arrangement, run.events, run.bill
        while self.steps[step][0] != "look":
            behind, arrangement, event, taken = self.done_at(step, arrangement, run.sign)
            bill = bill + taken
            if event is not None:
                events = (*events, event)
            if behind is None:
                return Run(run.signs, events, arrangement, run.sign, bill, step, event[0])
            step = behind
        return Run(run.signs, events, arrangement, run.sign, bill, step, "asks")

    def _bill_of_look(self, test):
        return Bill(len(self._rows[test]) + 1)

    def _part_in(self, place, arrangement):
        names = [told[0] for told in self.case.plan.places]
        return arrangement[0][names.index(place)]

    def _minutes(self, place):
        return self.case.plan[place][3]

    def _price(self, part):
        return self.case.plan.catalogue[self.case.kinds[part]].price


def follow(case, manual, signs):
    """The run in which each look takes the next of these signs."""
    run, _ = _followed(case, manual, signs)
    return run


def left_by(case, manual, signs):
    """The numbers of the worlds in which each sign that is taken can be read."""
    _, left = _followed(case, manual, signs)
    return left


def runs_in(case, manual, world):
    """The ended runs in the world with this number, ascending by their signs."""
    work = Work(case, manual)
    waiting = [work.begun()]
    while waiting:
        run = waiting.pop()
        if run.ended == "asks":
            signs = work.readable_in(run.step, run.arrangement, world)
            waiting.extend([work.read(run, sign) for sign in signs[::-1]])
        else:
            yield run


def _followed(case, manual, signs):
    """The run, and the worlds that its signs leave."""
    work = Work(case, manual)
    _judge_signs(case, signs)
    run = work.begun()
    left = tuple(range(len(case)))
    for sign in signs:
        if run.ended == "asks":
            left = tuple([world for world in left if sign in work.readable_in(run.step, run.arrangement, world)])
            run = work.read(run, sign)
    return run, left


def _judge_signs(case, signs):
    if not is_list(signs):
        raise BadSign(-1)
    for at, sign in enumerate(signs):
        if not is_number(sign, 0, case.plan.catalogue.signs - 1):
            raise BadSign(at)
