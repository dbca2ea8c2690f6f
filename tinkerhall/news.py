"""News: entries that tell what was seen of a machine, or which parts of a lot were broken."""

from tinkerhall.errors import NoNews
from tinkerhall.forms import is_number
from tinkerhall.showings import shows
from tinkerhall.walks import Walk


class Seen:
    """What was seen of a machine."""

    def __init__(self, house, moment, machine, row, sights):
        floor = house.floor(moment)
        _, plan, self.parts, _ = floor.machine(machine)
        self.day = floor.day
        self.plan = house.plan_of(plan)
        self.kinds = tuple([floor.kinds[part] for part in self.parts])
        self.row = row
        self.sights = sights
        self._answers = {}
        self._bars = {}

    def allows(self, world):
        """Whether the machine can show the sights in this world."""
        conditions = tuple([condition_on(world[part], self.day) for part in self.parts])
        if conditions not in self._answers:
            filling = tuple(list(zip(self.kinds, conditions)))
            self._answers[conditions] = shows(self.plan, filling, self.row, self.sights)
        return self._answers[conditions]

    def barred(self, lots):
        """Whether the machine cannot show the sights, whatever states of these lots its parts have at each step."""
        some = tuple([tuple(sorted({condition_on(state, self.day) for state in lots[part]})) for part in self.parts])
        if some not in self._bars:
            self._bars[some] = self._walked(some) == []
        return self._bars[some]

    def _walked(self, some):
        """The standings that are left behind the row where each place has any of some conditions."""
        walk = Walk(self.plan, self.kinds, some)
        standings = [walk.start]
        for at, inputs in enumerate(self.row):
            wanted = [(self.plan.lines.index(line), sign) for step, line, sign in self.sights if step == at]
            standings = walk.behind(standings, inputs, wanted)
        return standings


class Told:
    """What a bulletin tells of a lot."""

    def __init__(self, house, moment, lot, low, high):
        floor = house.floor(moment)
        self.day = floor.day
        self.parts = tuple([part for part, name in enumerate(floor.lots) if name == lot])
        self.low = low
        self.high = high

    def allows(self, world):
        """Whether so many parts of the lot are broken in this world."""
        broken = [part for part in self.parts if condition_on(world[part], self.day) != 0]
        return self.low <= len(broken) <= self.high

    def barred(self, lots):
        """Whether too many parts are surely broken, or too few can be."""
        broken = [[condition_on(state, self.day) != 0 for state in lots[part]] for part in self.parts]
        surely = [told for told in broken if all(told)]
        perhaps = [told for told in broken if any(told)]
        return len(surely) > self.high or len(perhaps) < self.low


def is_news(house, number):
    """Whether a thing is the number of a news entry of the house."""
    return is_number(number, 0, house.now - 1) and house[number][0] in ("seen", "told")


def news_with(house, number):
    """The news entry with this number, made ready to be asked for many worlds."""
    if not is_news(house, number):
        raise NoNews(number)
    told = house[number][1:]
    return Seen(house, *told) if house[number][0] == "seen" else Told(house, *told)


def news_in_force(house):
    """All news in force at the present moment, by their numbers."""
    return {number: news_with(house, number) for number in house.in_force()}


def condition_on(state, day):
    """The condition that a part in this state has on the day."""
    way, since = state
    return way if since <= day else 0
