"""Houses: a catalogue, plans, and a book of what was done and what was heard."""

from tinkerhall.deeds import floor_behind
from tinkerhall.entries import is_entry
from tinkerhall.errors import BadEntry, BadHouse, NoMoment, TooMany, Unknown
from tinkerhall.floors import Floor
from tinkerhall.forms import are_different, as_tuples, is_list, is_number
from tinkerhall.news import is_news
from tinkerhall.plans import Plan
from tinkerhall.signs import is_name

MOST_PLANS = 4
MOST_BREAKS = 3
MOST_ENTRIES = 60


class House:
    """A house with its book; the floor behind each entry is kept."""

    def __init__(self, catalogue, plans=(), *, most=1):
        if not _are_plans(catalogue, plans):
            raise BadHouse("plans")
        if not is_number(most, 0, MOST_BREAKS):
            raise BadHouse("most")
        self.catalogue = catalogue
        self.plans = tuple([tuple(pair) for pair in plans])
        self.most = most
        # These two are only ever exchanged as wholes, so that a trial can keep and restore them.
        self.entered = ()
        self.floors = (Floor({name: tuple([place[0] for place in plan.places]) for name, plan in self.plans}),)

    @property
    def now(self):
        return len(self.entered)

    @property
    def today(self):
        return self.floors[-1].day

    @property
    def book(self):
        return self.entered

    def enter(self, *entries):
        """Enters all entries, or none if one is refused; tells their numbers."""
        trying = self.copy()
        for entry in entries:
            trying._enter_next(entry)
        begun = len(self.entered)
        self.entered = trying.entered
        self.floors = trying.floors
        return tuple(range(begun, len(self.entered)))

    def __getitem__(self, at):
        return self.entered[at]

    def __len__(self):
        return len(self.entered)

    def __iter__(self):
        return iter(self.entered)

    def __eq__(self, other):
        return (isinstance(other, House) and self.catalogue == other.catalogue and self.plans == other.plans
                and self.most == other.most and self.entered == other.entered)

    def plan_of(self, name):
        """The plan of this name."""
        for told, plan in self.plans:
            if told == name:
                return plan
        raise Unknown(name)

    def floor(self, moment=None):
        """The floor that the entries ahead of the moment made."""
        return self.floors[self._moment(moment)].changed()

    def in_force(self, moment=None):
        """The numbers of the news in force at the moment, ascending."""
        force = {}
        for number, entry in enumerate(self.entered[:self._moment(moment)]):
            if is_news(self, number):
                force[number] = True
            elif entry[0] in ("strike", "again"):
                force[entry[1]] = entry[0] == "again"
        return tuple([number for number in force if force[number]])

    def upto(self, moment):
        """A house with just the entries ahead of the moment."""
        if moment is None:
            raise NoMoment(moment)
        cut = self._moment(moment)
        other = House(self.catalogue, self.plans, most=self.most)
        other.entered = self.entered[:cut]
        other.floors = self.floors[:cut + 1]
        return other

    def copy(self):
        return self.upto(len(self.entered))

    def _moment(self, moment):
        if moment is None:
            return len(self.entered)
        if not is_number(moment, 0, len(self.entered)):
            raise NoMoment(moment)
        return moment

    def _enter_next(self, entry):
        if not is_entry(entry):
            raise BadEntry(len(self.entered))
        if len(self.entered) == MOST_ENTRIES:
            raise TooMany("entry")
        floor = floor_behind(self, self.floors[-1], entry)
        self.entered = (*self.entered, as_tuples(entry))
        self.floors = (*self.floors, floor)


def _are_plans(catalogue, thing):
    if not is_list(thing) or len(thing) > MOST_PLANS:
        return False
    if not all([_is_named_plan(catalogue, pair) for pair in thing]):
        return False
    return are_different([name for name, _ in thing])


def _is_named_plan(catalogue, thing):
    if not is_list(thing) or len(thing) != 2 or not is_name(thing[0]) or not isinstance(thing[1], Plan):
        return False
    return thing[1].catalogue == catalogue
