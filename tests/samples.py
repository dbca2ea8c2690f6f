"""Kinds, catalogues and plans that the tests share, and a maker of many small ones."""

import random

from tinkerhall.errors import Ring
from tinkerhall.kinds import Catalogue, Kind
from tinkerhall.plans import Plan

# gate gives 1 if both inputs are 1; cell keeps its input; join gives 1 if one input is 1.
GATE = Kind(2, "gate", 2, (0, 0, 0, 1), ways=(("stands", "low", (0, 0, 0, 0)), ("flees", "high", (1, 1, 1, 1)),
                                              ("flees", "left", (0, 0, 1, 1))), price=3)
JOIN = Kind(2, "join", 2, (0, 1, 1, 1), ways=(("stands", "both", (0, 0, 0, 1)),), price=4)
CELL = Kind(2, "cell", 1, (0, 1, 0, 1), start=0, ways=(("stands", "stuck", (0, 0, 1, 1)),
                                                       ("flees", "drop", (0, 0, 0, 0))), price=10)
COLD = Kind(2, "cold", 1, (0, 1, 0, 1), start=1, price=2)
TURN = Kind(2, "turn", 1, (1, 0), ways=(("stands", "flat", (1, 1)),), price=1)
CATALOGUE = Catalogue(2, (GATE, JOIN, CELL, COLD, TURN))

# The example of the document, with stand-ins.
EXAMPLE = Plan(CATALOGUE, ("in",), (("g", ("gate", "join"), ("in", "c"), 3), ("c", ("cell", "cold"), ("g",), 5)), ("c",))
# What goes in is turned, kept, and joined with what goes in.
TURNED = Plan(CATALOGUE, ("a", "b"), (("t", ("turn",), ("a",), 1), ("k", ("cell",), ("t",), 2),
                                      ("j", ("join", "gate"), ("k", "b"), 60)), ("j", "b"))
# Neither an entry nor a place that keeps; and no place at all.
FIXED = Kind(3, "fixed", 0, (2,), ways=(("flees", "gone", (0,)),))
STILL = Plan(Catalogue(3, (FIXED,)), (), (("s", ("fixed",), (), 1),), ("s",))
EMPTY = Plan(Catalogue(2), ("in",), (), ("in",))


def ring_of(many):
    """A plan with no entry and so many places that keep, each on the one ahead of it."""
    names = ["k", "l", "m"][:many]
    places = [(name, ("cell", "cold"), (names[at - 1],), 1) for at, name in enumerate(names)]
    return Plan(CATALOGUE, (), places, (names[-1],))


def any_kind(chance, signs, name, inputs, keeps, ways):
    size = signs ** (inputs + (1 if keeps else 0))
    table = tuple(chance.randrange(signs) for _ in range(size))
    told = []
    while len(told) < ways:
        broken = list(table)
        for _ in range(chance.choice((1, 2, size))):
            broken[chance.randrange(size)] = chance.randrange(signs)
        if tuple(broken) != table:
            told.append((chance.choice(("stands", "flees")), "abcdef"[len(told)], tuple(broken)))
    start = chance.randrange(signs) if keeps else None
    return Kind(signs, name, inputs, table, start=start, ways=told, price=chance.randrange(9))


def any_catalogue(chance, signs):
    shapes = [(1, False), (2, False), (2, False), (1, True), (2, True), (0, False), (1, True), (1, False)]
    return Catalogue(signs, [any_kind(chance, signs, "k" + "abcdefgh"[at], inputs, keeps, chance.randrange(4))
                             for at, (inputs, keeps) in enumerate(shapes)])


def any_plan(chance, catalogue, entries, places):
    """A plan with at most 3 places that keep; places that do not fit are drawn again."""
    while True:
        own = [chance.choice(catalogue.kinds) for _ in range(places)]
        if len([kind for kind in own if kind.keeps]) > 3:
            continue
        names = ["x", "y"][:entries] + ["p", "q", "r", "s", "t", "u"][:places]
        rows = []
        for at, kind in enumerate(own):
            like = [other.name for other in catalogue
                    if other.inputs == kind.inputs and other.keeps == kind.keeps and other.name != kind.name]
            rows.append((names[entries + at], (kind.name, *like[:chance.randrange(3)]),
                         tuple(chance.choice(names) for _ in range(kind.inputs)), 1))
        exits = chance.sample(names, min(len(names), chance.choice((1, 1, 2))))
        try:
            return Plan(catalogue, names[:entries], rows, exits)
        except Ring:
            continue


def any_filling(chance, plan, most):
    """A filling with at most so many broken parts."""
    filling = []
    for place in plan.places:
        kind = plan.catalogue[chance.choice(place[1]) if chance.random() < 0.3 else place[1][0]]
        broken = most > 0 and len(kind) > 0 and chance.random() < 0.7
        condition = chance.randrange(1, len(kind) + 1) if broken else 0
        most -= 1 if condition else 0
        filling.append((kind.name, condition))
    return tuple(filling)


def any_row(chance, plan, most):
    return tuple(tuple(chance.randrange(plan.catalogue.signs) for _ in plan.entries)
                 for _ in range(chance.randrange(1, most + 1)))


def many_fillings(seed, many, *, signs=(2, 3), entries=(0, 1, 2), places=(0, 1, 2, 3, 4), broken=2):
    """Pairs of a plan and a filling, the same ones for the same seed."""
    chance = random.Random(seed)
    found = []
    while len(found) < many:
        wide = chance.choice(entries)
        deep = chance.choice(places)
        if wide + deep > 0:
            plan = any_plan(chance, any_catalogue(chance, chance.choice(signs)), wide, deep)
            found.append((plan, any_filling(chance, plan, broken)))
    return found
