"""Plans: how parts hang together."""

from tinkerhall.errors import BadPlace, BadPlan, Ring, TooMany, Twice, Unfit, Unknown
from tinkerhall.forms import is_list, is_number
from tinkerhall.kinds import Catalogue
from tinkerhall.signs import are_different_names, are_names, is_name

MOST_PLACES = 6
MOST_KEEPING = 3
MOST_MINUTES = 60
ALONE = ("x", "y")


class Plan:
    """Entries, places and exits over a catalogue."""

    def __init__(self, catalogue, entries, places, exits):
        _judge_forms(entries, places, exits)
        self.catalogue = catalogue
        self.entries = tuple(entries)
        self.places = tuple([(name, tuple(kinds), tuple(sources), minutes)
                             for name, kinds, sources, minutes in places])
        self.exits = tuple(exits)
        self._lines = (*self.entries, *[place[0] for place in self.places])
        _judge_names(catalogue, self._lines, self.places, self.exits)
        _judge_kinds(catalogue, self.places)
        self._keeping = tuple([place[0] for place in self.places if catalogue[place[1][0]].keeps])
        if len(self._keeping) > MOST_KEEPING:
            raise TooMany("keep")
        # The numbers of the places that do not keep, each behind those on which it hangs.
        self.order = _loose_order(self.places, self._keeping)
        self._own = tuple([(place[1][0], 0) for place in self.places])

    @property
    def lines(self):
        return self._lines

    @property
    def keeping(self):
        return self._keeping

    @property
    def own(self):
        return self._own

    def __getitem__(self, at):
        for place in self.places:
            if place[0] == at:
                return place
        raise Unknown(at)

    def __contains__(self, x):
        return x in self._lines

    def __len__(self):
        return len(self.places)

    def __iter__(self):
        return iter(self._lines)

    def __eq__(self, other):
        return (isinstance(other, Plan) and self.catalogue == other.catalogue and self.entries == other.entries
                and self.places == other.places and self.exits == other.exits)

    @staticmethod
    def alone(kind):
        """The plan of a kind alone."""
        entries = ALONE[:kind.inputs]
        return Plan(Catalogue(kind.signs, (kind,)), entries, (("p", (kind.name,), entries, 1),), ("p",))

    def changed(self, **parts):
        """The plan with some of its entries, places and exits exchanged."""
        told = {"entries": self.entries, "places": self.places, "exits": self.exits, **parts}
        return Plan(self.catalogue, **told)


def hung_loosely(places, keeping, name):
    """The names of the places that do not keep on which this one hangs through such places."""
    sources = {place[0]: place[2] for place in places if place[0] not in keeping}
    found = {}
    waiting = [name]
    while waiting:
        place = waiting.pop()
        for source in sources[place]:
            if source in sources and source not in found:
                found[source] = True
                waiting.append(source)
    return found


def _judge_forms(entries, places, exits):
    if not are_names(entries, 0, 2):
        raise BadPlan("entries")
    if not is_list(places):
        raise BadPlan("places")
    for at, place in enumerate(places):
        if not _is_place(place):
            raise BadPlace(at)
    if not are_different_names(exits, 1, 2):
        raise BadPlan("exits")
    if len(places) > MOST_PLACES:
        raise TooMany("place")


def _is_place(thing):
    if not is_list(thing) or len(thing) != 4:
        return False
    name, kinds, sources, minutes = thing
    return (is_name(name) and are_different_names(kinds, 1, 3) and are_names(sources, 0, 2)
            and is_number(minutes, 1, MOST_MINUTES))


def _judge_names(catalogue, lines, places, exits):
    for at, name in enumerate(lines):
        if name in lines[:at]:
            raise Twice(name)
    for _, kinds, sources, _ in places:
        for kind in kinds:
            if kind not in catalogue:
                raise Unknown(kind)
        for source in sources:
            if source not in lines:
                raise Unknown(source)
    for name in exits:
        if name not in lines:
            raise Unknown(name)


def _judge_kinds(catalogue, places):
    for name, names, sources, _ in places:
        kinds = [catalogue[kind] for kind in names]
        if any([kind.inputs != len(sources) or kind.keeps != kinds[0].keeps for kind in kinds]):
            raise Unfit(name)


def _loose_order(places, keeping):
    hung = []
    for at, place in enumerate(places):
        if place[0] not in keeping:
            under = hung_loosely(places, keeping, place[0])
            if place[0] in under:
                raise Ring(place[0])
            # What hangs on a place hangs on all that this one hangs on, and on one more.
            hung.append((len(under), at))
    return tuple([at for _, at in sorted(hung)])
