"""Cases: what a manual is used on."""

from tinkerhall.errors import BadCase, Unknown
from tinkerhall.forms import are_different, is_list, is_number

MOST_PARTS = 10
MOST_WORLDS = 300


class Case:
    """A plan, the kinds of some parts, where they are, and the worlds that are left."""

    def __init__(self, plan, kinds, placed, shelf, worlds, *, bench=()):
        _judge_kinds(plan, kinds)
        _judge_arrangement(plan, kinds, placed, shelf, bench)
        most = [len(plan.catalogue[kind]) for kind in kinds]
        if not is_list(worlds) or not 1 <= len(worlds) <= MOST_WORLDS:
            raise BadCase("worlds")
        if not all([_is_world(most, world) for world in worlds]):
            raise BadCase("worlds")
        ordered = sorted([(_many_broken(world), tuple(world)) for world in worlds])
        if any([ordered[at - 1] == ordered[at] for at in range(1, len(ordered))]):
            raise BadCase("worlds")
        self.plan = plan
        self.kinds = tuple(kinds)
        self.arrangement = _as_arrangement((placed, shelf, bench))
        self.placed, self.shelf, self.bench = self.arrangement
        self.worlds = tuple([world for _, world in ordered])

    @classmethod
    def of(cls, plan, kinds, placed, shelf, most, *, bench=()):
        """The case with all worlds in which at most so many parts are broken."""
        _judge_kinds(plan, kinds)
        _judge_arrangement(plan, kinds, placed, shelf, bench)
        worlds = [()]
        for kind in kinds:
            worlds = [(*begun, condition) for begun in worlds
                      for condition in range(len(plan.catalogue[kind]) + 1)
                      if condition == 0 or _many_broken(begun) < most]
            # Each beginning of a world goes on to at least one world.
            if len(worlds) > MOST_WORLDS:
                raise BadCase("worlds")
        return cls(plan, kinds, placed, shelf, worlds, bench=bench)

    def __len__(self):
        return len(self.worlds)

    def __getitem__(self, at):
        return self.worlds[at]

    def __iter__(self):
        return iter(self.worlds)

    def __eq__(self, other):
        return (isinstance(other, Case) and self.plan == other.plan and self.kinds == other.kinds
                and self.arrangement == other.arrangement and self.worlds == other.worlds)

    def filling_in(self, world, arrangement=None):
        """The filling that the machine has in the world with this number."""
        placed, _, _ = self._arranged(arrangement)
        conditions = self.worlds[world]
        return tuple([(self.kinds[part], conditions[part]) for part in placed])

    def broken(self, world):
        """The parts that are broken in the world with this number."""
        return tuple([part for part, condition in enumerate(self.worlds[world]) if condition != 0])

    def swapped(self, place, arrangement=None):
        """The arrangement behind a swap, or None if no part on the shelf fits."""
        number = self._number_of(place)
        placed, shelf, bench = self._arranged(arrangement)
        fitting = [part for part in shelf if self.kinds[part] in self.plan.places[number][1]]
        if not fitting:
            return None
        left = tuple([part for part in shelf if part != fitting[0]])
        return _with_part(placed, number, fitting[0]), left, (*bench, (place, placed[number]))

    def put_back(self, place, arrangement=None):
        """The arrangement behind putting back; the same if nothing of the place is on the bench."""
        number = self._number_of(place)
        placed, shelf, bench = self._arranged(arrangement)
        spots = [at for at, pair in enumerate(bench) if pair[0] == place]
        if not spots:
            return placed, shelf, bench
        last = spots[-1]
        return (_with_part(placed, number, bench[last][1]), (placed[number], *shelf),
                (*bench[:last], *bench[last + 1:]))

    def cleared(self, place, left, arrangement=None):
        """Whether the part in the place is cleared by the worlds with these numbers."""
        number = self._number_of(place)
        placed, _, _ = self._arranged(arrangement)
        part = placed[number]
        if self.kinds[part] != self.plan.places[number][1][0]:
            return False
        return all([self.worlds[world][part] == 0 for world in left])

    def with_worlds(self, left):
        """The case with just the worlds with these numbers."""
        worlds = [self.worlds[world] for world in left]
        return Case(self.plan, self.kinds, self.placed, self.shelf, worlds, bench=self.bench)

    def _arranged(self, arrangement):
        return self.arrangement if arrangement is None else _as_arrangement(arrangement)

    def _number_of(self, place):
        for number, told in enumerate(self.plan.places):
            if told[0] == place:
                return number
        raise Unknown(place)


def _judge_kinds(plan, kinds):
    if not is_list(kinds) or len(kinds) > MOST_PARTS:
        raise BadCase("kinds")
    if not all([kind in plan.catalogue for kind in kinds]):
        raise BadCase("kinds")


def _judge_arrangement(plan, kinds, placed, shelf, bench):
    names = [place[0] for place in plan.places]
    if not is_list(placed) or len(placed) != len(names) or not _are_parts(kinds, placed):
        raise BadCase("placed")
    if not all([_fits(plan, kinds, name, part) for name, part in zip(names, placed)]):
        raise BadCase("placed")
    if not is_list(shelf) or not _are_parts(kinds, (*placed, *shelf)):
        raise BadCase("shelf")
    if not is_list(bench) or not all([is_list(pair) and len(pair) == 2 for pair in bench]):
        raise BadCase("bench")
    if not _are_parts(kinds, (*placed, *shelf, *[pair[1] for pair in bench])):
        raise BadCase("bench")
    if not all([name in names and _fits(plan, kinds, name, part) for name, part in bench]):
        raise BadCase("bench")


def _are_parts(kinds, things):
    """Whether the things are numbers of parts, each there once."""
    return all([is_number(thing, 0, len(kinds) - 1) for thing in things]) and are_different(things)


def _fits(plan, kinds, name, part):
    return kinds[part] in plan[name][1]


def _is_world(most, thing):
    if not is_list(thing) or len(thing) != len(most):
        return False
    return all([is_number(condition, 0, bound) for condition, bound in zip(thing, most)])


def _many_broken(world):
    return len([condition for condition in world if condition != 0])


def _as_arrangement(arrangement):
    placed, shelf, bench = arrangement
    return tuple(placed), tuple(shelf), tuple([tuple(pair) for pair in bench])


def _with_part(placed, number, part):
    return (*placed[:number], part, *placed[number + 1:])
