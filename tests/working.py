"""Houses with machines, and what the document says of them at work, done plainly and slowly."""

import functools
import random

from tests.houses import any_entry, condition, plain_floors, plain_worlds
from tests.judged import Judge
from tests.repairs import TESTS, WIRE
from tinkerhall.allowed import candidates
from tinkerhall.cases import Case
from tinkerhall.house import House
from tinkerhall.kinds import Catalogue, Kind
from tinkerhall.manuals import Manual
from tinkerhall.plans import Plan

BARE = WIRE.changed(places=(), exits=("in",))
COMES = (("come", "pass", "old"), ("come", "cell", "old"), ("come", "pass", "new"), ("come", "cell", "new"),
         ("come", "turner", "new"))


def wire_house(most=1):
    """A house with a wire `m` of the parts 0 and 1; a pass, a cell and a turner are on the shelf."""
    house = House(WIRE.catalogue, (("wire", WIRE), ("bare", BARE)), most=most)
    house.enter(*COMES, ("build", "m", "wire", (0, 1)))
    return house


def slow_house(most=1):
    """A house as the one above, in which nothing comes and goes, and a swap takes longer than a look."""
    kinds = [Kind(kind.signs, kind.name, kind.inputs, kind.table, start=kind.start, price=kind.price,
                  ways=[way for way in kind.ways if way[0] == "stands"]) for kind in WIRE.catalogue]
    plan = Plan(Catalogue(2, kinds), WIRE.entries, [(*place[:3], minutes) for place,
                                                    minutes in zip(WIRE.places, (9, 15))], WIRE.exits)
    house = House(plan.catalogue, (("wire", plan),), most=most)
    house.enter(*COMES, ("build", "m", "wire", (0, 1)))
    return house


def ways_house(ways, most):
    """A house with a part for each number of ways; the first one is in the machine `m`, and a part without ways in `n`."""
    kinds = [Kind(2, "k" + "abcdefg"[many], 1, (0, 1), ways=[
        ("stands", "abcdef"[at], tuple(told)) for at, told in enumerate(((1, 1), (0, 0),
                                                                         (1, 0))[:many])]) for many in range(4)]
    wide = [Kind(2, "k" + "abcdefg"[many], 2, (0, 0, 0, 0), ways=[
        ("stands", "abcdef"[at], tuple(int(spot in (at % 4, at // 2)) for spot in range(4))) for at in range(many)])
        for many in (4, 5, 6)]
    catalogue = Catalogue(2, (*kinds, *wide))
    first = "k" + "abcdefg"[ways[0]]
    plan = Plan(catalogue, ("x", "y"), (("p", (first,), ("x",) if ways[0] < 4 else ("x", "y"), 1),), ("p",))
    house = House(catalogue, (("plan" + "x", plan),), most=most)
    house.enter(*[("come", "k" + "abcdefg"[many], "one") for many in ways], ("build", "m", "planx", (0,)))
    return house


def bring_in(house):
    """Takes all machines of the house in again."""
    house.enter(*[("take", name) for name, _, _, inside in house.floor().machines if not inside])


def plain_rows(house):
    """The worlds of the present moment as rows of conditions, each once."""
    return sorted({tuple(condition(state, house.today) for state in world) for world in plain_worlds(house, house.now)},
                  key=lambda row: (sum(told != 0 for told in row), row))


def plain_case(house, machine):
    _, kinds, _, _, shelf, bench, _, machines = plain_floors(house)[-1]
    _, plan, parts, _ = [told for told in machines if told[0] == machine][0]
    return Case(dict(house.plans)[plan], kinds, parts, shelf, plain_rows(house),
                bench=[(place, part) for name, place, part in bench if name == machine])


def plain_filling(house, machine, world):
    """The plan of a machine, and its filling today in a world."""
    day, kinds, _, _, _, _, _, machines = plain_floors(house)[-1]
    _, plan, parts, _ = [told for told in machines if told[0] == machine][0]
    return dict(house.plans)[plan], tuple((kinds[part], condition(world[part], day)) for part in parts)


ACTED = {}


def plain_acts(plan, filling):
    """Whether a filling acts as whole; what was found out is kept, with the plan, so that no other one has its number."""
    told = (id(plan), filling)
    if told not in ACTED:
        kinds = [kind for kind, _ in filling]
        case = Case(plan, kinds, tuple(range(len(kinds))), (), (tuple(condition for _, condition in filling),))
        ACTED[told] = (plan, Judge(case, Manual((), (("x", ()),))).acts(case.arrangement, 0))
    return ACTED[told][1]


def any_wire_house(chance, tries, most):
    """A house with wires in which so many entries were tried."""
    house = House(WIRE.catalogue, (("wire", WIRE), ("bare", BARE)), most=most)
    secret = []
    for _ in range(tries):
        entry = any_entry(chance, house, secret)
        if entry[0] == "come" and len(secret) == 6 or entry[0] == "day" and house.today == 2:
            continue
        try:
            house.enter(entry)
        except ValueError:
            continue
        if entry[0] == "come":
            ways = len(house.catalogue[entry[1]].ways)
            breaks = sum(state != (0, 0) for state in secret) < most and ways > 0 and chance.random() < 0.5
            secret.append((chance.randrange(1, ways + 1), chance.randrange(house.today, 3)) if breaks else (0, 0))
    return house


@functools.cache
def many_wire_houses(seed, many):
    """Houses with at least one machine with places, and not too many candidates."""
    chance = random.Random(seed)
    found = []
    while len(found) < many:
        house = any_wire_house(chance, 30, chance.choice((0, 1, 1, 2, 2)))
        wired = [told for told in house.floor().machines if told[1] == "wire"]
        if wired and candidates(house) <= 400 and house.now <= 45:
            found.append(house)
    return found


MANUAL = Manual(TESTS, (("main", (("look", "one", "g"), ("if", (0,), (("swap", "g"), ("say", "c")), ()),
                                  ("look", "two", "c"),
                                  ("if", (1,), (("swap", "c"), ("back", "g")), ()), ("done",))),))
