"""Menus that the tests share, and what the document says of nodes and values, done plainly and slowly."""

import functools
import random

from tests.judged import Judge
from tests.repairs import DROP, ONE, STUCK, TURN, WIRE, ZERO, any_case, wire_case
from tests.samples import any_row
from tinkerhall.cases import Case
from tinkerhall.kinds import Catalogue, Kind
from tinkerhall.manuals import Manual
from tinkerhall.menus import Menu
from tinkerhall.plans import Plan

TESTS = (("one", ((1,), (1,))), ("two", ((0,), (0,))), ("odd", ((1,),)))
# Two places for the same parts, of which few are there.
TWO = WIRE.changed(places=(("p", ("pass",), ("in",), 3), ("q", ("pass", "turner"), ("in",), 4)), exits=("p", "q"))
MENU = Menu(WIRE, TESTS, (("one", "g"), ("two", "c")))


class Player:
    """A case with a menu and perhaps a goal, played by the words of the document."""

    def __init__(self, case, menu, goal=None):
        self.case, self.menu, self.goal = case, menu, goal
        self.judge = Judge(case, Manual((), (("x", ()),)))
        self.rows = dict(menu.tests)
        self.read = {}

    def beginning(self):
        return self.case.arrangement, tuple(range(len(self.case.worlds)))

    def is_met(self, node):
        if self.goal is None:
            return all(self.judge.acts(node[0], world) for world in node[1])
        return len({self.goal[world] for world in node[1]}) <= 1

    def deeds(self, node):
        if self.is_met(node):
            return ()
        found = [("look", *pair) for pair in self.menu.looks]
        for place in self.case.plan.places:
            if self.judge.swapped(place[0], node[0]) and not self.judge.cleared(place[0], *node):
                found.append(("swap", place[0]))
        return tuple(found)

    def readable(self, test, line, arrangement, world):
        told = (test, line, arrangement[0], world)
        if told not in self.read:
            self.judge.flow = (("look", test, line, 1),)
            self.judge.rows, self.judge.read = self.rows, {}
            self.read[told] = self.judge.readable(0, arrangement, world)
        return self.read[told]

    def followers(self, node, deed):
        if deed[0] == "swap":
            return ((-1, (self.judge.swapped(deed[1], node[0]), node[1])),)
        signs = {world: self.readable(*deed[1:], node[0], world) for world in node[1]}
        return tuple((sign, (node[0], tuple(world for world in node[1] if sign in signs[world])))
                     for sign in range(self.case.plan.catalogue.signs) if any(sign in told for told in signs.values()))

    def minutes(self, deed):
        return self.judge.place(deed[1])[3] if deed[0] == "swap" else len(self.rows[deed[1]]) + 1

    def nodes(self):
        listed = [self.beginning()]
        found = set(listed)
        for node in listed:
            for deed in self.deeds(node):
                for _, follower in self.followers(node, deed):
                    if follower not in found:
                        found.add(follower)
                        listed.append(follower)
        return tuple(listed)

    def values(self):
        """The fewest minutes within which each node can surely be brought to one that is met, or -1."""
        nodes = self.nodes()
        ways = {node: [(self.minutes(deed), [follower for _, follower in self.followers(node, deed)])
                       for deed in self.deeds(node)] for node in nodes}
        within = {node: 0 for node in nodes if self.is_met(node)}
        minutes, last = 0, 0
        # No deed takes more than 60 minutes, so nothing comes behind 60 minutes in which nothing came.
        while minutes <= last + 60:
            minutes += 1
            for node in nodes:
                if node not in within and any(all(told in within and within[told] <= minutes - took for told in behind)
                                              for took, behind in ways[node]):
                    within[node] = last = minutes
        return {node: within.get(node, -1) for node in nodes}

    def chosen(self, node, values):
        """The first deed for which the value of the node is reached."""
        for deed in self.deeds(node):
            behind = [values[follower] for _, follower in self.followers(node, deed)]
            if -1 not in behind and self.minutes(deed) + max(behind) == values[node]:
                return deed
        return None

    def body(self, node, values):
        """What is written of the best manual for a node."""
        deed = self.chosen(node, values)
        if deed is None:
            return (("done",),)
        behind = self.followers(node, deed)
        if deed[0] == "swap":
            return (deed, *self.body(behind[0][1], values))
        body = self.body(behind[-1][1], values)
        for sign, follower in behind[-2::-1]:
            body = (("if", (sign,), self.body(follower, values), body),)
        return (deed, *body)


def plain_fits(player, table):
    """What judge_values must tell of a table of tuples that have their forms."""
    first = {}
    for row in table:
        first.setdefault(row[:2], row[2])
    if player.beginning() not in first:
        return -1
    for at, (arrangement, left, value) in enumerate(table):
        node = (arrangement, left)
        deeds = [] if not left else player.deeds(node)
        behind = [[follower for _, follower in player.followers(node, deed)] for deed in deeds]
        if not left or any(follower not in first for told in behind for follower in told):
            return at
        sure = [player.minutes(deed) + max(first[follower] for follower in told)
                for deed, told in zip(deeds, behind) if all(first[follower] != -1 for follower in told)]
        wanted = 0 if player.is_met(node) else min(sure, default=-1)
        if value != wanted:
            return at
    return None


def any_menu(chance, plan):
    tests = tuple((name, any_row(chance, plan, 2)) for name in ("ta", "tb", "tc")[:chance.choice((0, 1, 2, 3, 3))])
    pairs = [(name, line) for name, _ in tests for line in plan.lines]
    return Menu(plan, tests, chance.sample(pairs, min(len(pairs), chance.choice((0, 1, 2, 2, 3)))))


@functools.cache
def many_plays(seed, many):
    """Triples of a case, a menu and a goal, which can be None."""
    chance = random.Random(seed)
    found = []
    while len(found) < many:
        if chance.random() < 0.5:
            worlds = {chance.choice(((), ZERO, ONE, TURN, STUCK, DROP, (*ZERO, *STUCK), ((2, 1),), (*ZERO, (2, 2)),
                                     ((3, 1),)))
                      for _ in range(chance.choice((1, 2, 3, 4, 5)))}
            case = wire_case(*sorted(worlds), shelf=chance.choice(((), (2,), (2, 3), (2, 3, 4), (4, 3, 2))))
        else:
            case = any_case(chance, 3, 5)
        goal = None if chance.random() < 0.5 else tuple(chance.randrange(-1, 2) for _ in case)
        found.append((case, any_menu(chance, case.plan), goal))
    return found


def any_wire_case(chance):
    some = (ZERO, ONE, STUCK, ()) if chance.random() < 0.6 else (
        ZERO, ONE, TURN, STUCK, DROP, (*ZERO, *STUCK), (*ONE, *DROP), (*ZERO, (2, 1)), (*TURN, (3, 1)),
        (*STUCK, (3, 2)), ())
    worlds = {chance.choice(some) for _ in range(chance.choice((1, 2, 3, 3, 4)))}
    shelf = chance.choice(((2, 3), (2, 3, 4), (4, 3, 2), (3, 2), (4, 2, 3)))
    plan = WIRE.changed(places=[(*place[:3], chance.choice((3, 9, 15, 60))) for place in WIRE.places])
    plain = wire_case(*sorted(worlds), shelf=shelf)
    return Case(plan, plain.kinds, plain.placed, shelf, plain.worlds)


def any_case_of_two(chance):
    worlds = {(chance.choice((0, 0, 1, 2, 3)), chance.choice((0, 0, 1, 2)), chance.choice((0, 0, 0, 1)), 0, 0)
              for _ in range(chance.choice((2, 3, 4)))}
    shelf = chance.choice(((2,), (2, 3), (4, 2), (2, 4)))
    return Case(TWO, ("pass", "pass", "pass", "pass", "turner"), (0, 1), shelf, sorted(worlds))


@functools.cache
def many_rich_plays(seed, many):
    """Cases of the wire, or of two places for the same parts, in which something is to be done, with menus, without a goal."""
    chance = random.Random(seed)
    found = []
    while len(found) < many:
        case = any_wire_case(chance) if chance.random() < 0.7 else any_case_of_two(chance)
        pairs = [(name, line) for name, _ in TESTS for line in case.plan.lines[1:]]
        menu = Menu(case.plan, TESTS, chance.sample(pairs, chance.choice((1, 2, 3, 4))))
        if not Player(case, menu).is_met((case.arrangement, tuple(range(len(case))))):
            found.append((case, menu, None))
    return found


# A lamp with six ways, which three tests tell apart more or less; and calm parts, all broken, which never act as whole.
WAYS = {2000: (((0, 2, 0), (0, 1, 1), (2, 1, 0), (1, 0, 1), (2, 0, 2), (1, 2, 0)), "f"),
        2001: (((2, 2, 0), (2, 2, 2), (0, 2, 2), (2, 1, 2), (2, 1, 1), (0, 1, 1)), "cd")}
# For each kind of calm part in how many places it is, and how many are on the shelf.
SPARES = {2000: ((1, 3), (1, 4)), 2001: ((1, 1), (3, 1), (1, 2))}


def large_play(many):
    """A case and a menu with exactly so many nodes, 2,000 or 2,001."""
    tables, fleeing = WAYS[many]
    ways = [("flees" if name in fleeing else "stands", name, table) for name, table in zip("abcdef", tables)]
    kinds = [Kind(3, "lamp", 1, (0, 0, 0), ways=ways)]
    places = [("w", ("lamp",), ("x",), 1)]
    spares = []
    for at, (wide, deep) in enumerate(SPARES[many]):
        name = "calm" + "abc"[at]
        kinds.append(Kind(3, name, 0, (0,), ways=(("stands", "on", (1,)),)))
        places += [("p" + "abc"[at] + "abc"[spot], (name,), (), 1) for spot in range(wide)]
        spares += [name] * deep
    plan = Plan(Catalogue(3, kinds), ("x",), places, (places[1][0],))
    told = [place[1][0] for place in places] + spares
    shelf = tuple(range(len(places), len(told)))
    case = Case(plan, told, tuple(range(len(places))), shelf,
                [(condition,) + (1,) * (len(told) - 1) for condition in range(7)])
    tests = tuple((name, ((sign,),)) for sign, name in enumerate(("ta", "tb", "tc")))
    return case, Menu(plan, tests, tuple((name, "w") for name, _ in tests))
