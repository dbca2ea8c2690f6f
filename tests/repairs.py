"""Manuals and cases that the tests share, and what the document says of them, done plainly and slowly."""

import functools
import random

from tests import naive
from tests.samples import CELL, EXAMPLE, any_catalogue, any_plan, any_row
from tinkerhall.cases import Case
from tinkerhall.kinds import Catalogue, Kind
from tinkerhall.manuals import Manual
from tinkerhall.plans import Plan

# The example of the document, a little longer: two tests, and every word.
TESTS = (("one", ((1,), (1,))), ("two", ((0,), (0,))))
MAIN = (("look", "one", "g"), ("if", (0, 2), (("swap", "g"), ("look", "two", "c"), ("if", (1,), (("done",),), ()),
                                              ("back", "g")), (("say", "c"),)))
BOOK = Manual(TESTS, (("main", MAIN),))

# The parts 0 and 1 are in the machine, the gate 2, the cell 3 and the join 4 on the shelf.
KINDS = ("gate", "cell", "gate", "cell", "join")


def the_case(**told):
    worlds = told.pop("worlds", ((0, 0, 0, 0, 0), (1, 0, 0, 0, 0), (2, 0, 0, 0, 0), (0, 1, 0, 0, 0), (0, 2, 0, 0, 1)))
    return Case(EXAMPLE, KINDS, (0, 1), (2, 3, 4), worlds, **told)


def manual_of(*body, tests=TESTS, **chapters):
    return Manual(tests, (("main", body), *chapters.items()))


class Leave(Exception):
    pass


class Ended(Exception):
    pass


class Reader:
    """Reads a manual statement by statement, without its flow."""

    def __init__(self, case, manual, signs):
        self.case, self.manual, self.left = case, manual, list(signs)
        self.chapters, self.tests = dict(manual.chapters), dict(manual.tests)
        self.placed, self.shelf, self.bench = list(case.placed), list(case.shelf), list(case.bench)
        self.places = [place[0] for place in case.plan.places]
        self.signs, self.events, self.sign, self.minutes, self.price = [], [], -1, 0, 0
        self.looks = []
        self.ended = self.asked = None
        try:
            self.body(manual.chapters[0][1])
            self.end("quit")
        except Ended:
            pass

    def end(self, word, *told):
        self.ended = word
        if word != "asks":
            self.events.append((word, *told))
        raise Ended

    def fits(self, part, place):
        return self.case.kinds[part] in self.case.plan.places[self.places.index(place)][1]

    def price_of(self, part):
        return self.case.plan.catalogue[self.case.kinds[part]].price

    def arrangement(self):
        return tuple(self.placed), tuple(self.shelf), tuple(self.bench)

    def body(self, body):
        for statement in body:
            getattr(self, "do_" + statement[0])(*statement[1:])

    def do_look(self, test, line):
        if not self.left:
            self.asked = (test, line)
            self.end("asks")
        self.sign = self.left.pop(0)
        self.looks.append((test, line, self.arrangement(), self.sign))
        self.signs.append(self.sign)
        self.events.append(("look", test, line, self.sign))
        self.minutes += len(self.tests[test]) + 1

    def do_swap(self, place):
        fitting = [part for part in self.shelf if self.fits(part, place)]
        if not fitting:
            self.end("lack", place)
        at = self.places.index(place)
        self.shelf.remove(fitting[0])
        self.bench.append((place, self.placed[at]))
        self.placed[at] = fitting[0]
        self.events.append(("swap", place, fitting[0]))
        self.minutes += self.case.plan.places[at][3]
        self.price += self.price_of(fitting[0])

    def do_back(self, place):
        at = self.places.index(place)
        held = [number for number, pair in enumerate(self.bench) if pair[0] == place]
        if held:
            part = self.bench.pop(held[-1])[1]
            self.shelf.insert(0, self.placed[at])
            self.price -= self.price_of(self.placed[at])
            self.placed[at] = part
            self.events.append(("back", place, part))
            self.minutes += self.case.plan.places[at][3]

    def do_say(self, place):
        self.events.append(("say", place, self.placed[self.places.index(place)]))

    def do_if(self, signs, yes, no):
        self.body(yes if self.sign in signs else no)

    def do_repeat(self, many, body):
        try:
            for _ in range(many):
                self.body(body)
        except Leave:
            pass

    def do_leave(self):
        raise Leave

    def do_call(self, chapter):
        self.body(self.chapters[chapter])

    def do_done(self):
        self.end("done")

    def do_quit(self):
        self.end("quit")

    def told(self):
        return (tuple(self.signs), tuple(self.events), self.arrangement(), self.sign, self.minutes, self.price, self.ended)


def plain_readable(case, world, arrangement, row, line):
    """The signs that the line can show at the last step."""
    filling = tuple((case.kinds[part], case.worlds[world][part]) for part in arrangement[0])
    ends = {naive.beginning(case.plan, filling)}
    for inputs in row:
        both = [naive.step(case.plan, filling, standing, inputs, coming)
                for standing in ends for coming in naive.all_comings(case.plan, filling)]
        ends = {behind for _, behind in both}
    return sorted({naive.at_lines(case.plan, shown, (line,))[0] for shown, _ in both})


def plain_runs(case, manual, world):
    """The ended runs in a world, ascending by their signs."""
    waiting = [()]
    found = []
    while waiting:
        reader = Reader(case, manual, waiting.pop(0))
        if reader.ended == "asks":
            test, line = reader.asked
            signs = plain_readable(case, world, reader.arrangement(), dict(manual.tests)[test], line)
            waiting += [(*reader.signs, sign) for sign in signs]
        else:
            found.append(reader.told())
    return sorted(found, key=lambda told: told[0])


def plain_flow(manual):
    """The flow, linked from its end to its beginning."""
    steps = []
    chapters = dict(manual.chapters)

    def number(body):
        told = []
        for statement in body:
            word = statement[0]
            if word == "leave":
                return told + [(word,)]
            if word == "repeat":
                told.append((word, [number(statement[2]) for _ in range(statement[1])]))
            elif word == "call":
                told.append((word, number(chapters[statement[1]])))
            else:
                at = len(steps)
                steps.append(statement)
                told.append((word, at, [number(inner) for inner in statement[2:]] if word == "if" else None))
        return told

    def link(told, behind, outer):
        for node in reversed(told):
            if node[0] == "leave":
                behind = outer
            elif node[0] == "repeat":
                after = behind
                for copy in reversed(node[1]):
                    behind = link(copy, behind, after)
            elif node[0] == "call":
                behind = link(node[1], behind, None)
            else:
                _, at, bodies = node
                if bodies is not None:
                    steps[at] = ("if", steps[at][1], *[link(inner, behind, outer) for inner in bodies])
                elif node[0] not in ("done", "quit"):
                    steps[at] = (*steps[at], behind)
                behind = at
        return behind

    told = number(manual.chapters[0][1])
    steps.append(("quit",))
    link(told, len(steps) - 1, None)
    return tuple(steps)


def any_body(chance, names, depth, loops):
    """A body of few statements; `names` has the tests, lines, places and chapters that can be used."""
    tests, lines, places, chapters = names
    body = []
    for _ in range(chance.choice((0, 1, 2, 2, 3, 4))):
        words = ["look"] * 6 * bool(tests) + ["if"] * 3 * (depth > 0) + ["repeat"] * 2 * (depth > 0)
        words += ["swap", "swap", "back", "say"] * bool(places) + ["call"] * bool(chapters) + ["leave"] * 2 * loops
        words += ["done", "quit"] if chance.random() < 0.3 else []
        if not words:
            continue
        word = chance.choice(words)
        if word == "look":
            body.append((word, chance.choice(tests), chance.choice(lines)))
        elif word in ("swap", "back", "say"):
            body.append((word, chance.choice(places)))
        elif word == "if":
            signs = tuple(sorted(chance.sample(range(3), chance.choice((1, 1, 2)))))
            body.append((word, signs, any_body(chance, names, depth - 1, loops), any_body(chance, names, depth - 1, loops)))
        elif word == "repeat":
            body.append((word, chance.choice((1, 2, 2, 3)), any_body(chance, names, depth - 1, True)))
        elif word == "call":
            body.append((word, chance.choice(chapters)))
        else:
            body.append((word,))
    return tuple(body)


def any_manual(chance, plan, depth=2):
    """A manual that fits the plan, with up to three chapters."""
    tests = tuple((name, any_row(chance, plan, 2)) for name in ("ta", "tb")[:chance.choice((0, 1, 2, 2, 2))])
    places = [place[0] for place in plan.places]
    while True:
        chapters = []
        for name in ("cc", "cb", "ca")[chance.randrange(3):]:
            names = ([test for test, _ in tests], plan.lines, places, [told for told, _ in chapters])
            chapters.append((name, any_body(chance, names, depth, False)))
        try:
            return Manual(tests, chapters[::-1])
        except ValueError:
            continue


def any_case(chance, parts=2, worlds=4):
    """A small case with so many spare parts at most, and so many worlds at most."""
    plan = any_plan(chance, any_catalogue(chance, 2), chance.choice((0, 1)), chance.choice((0, 1, 2, 2)) or 1)
    kinds = [chance.choice(place[1]) for place in plan.places]
    placed = tuple(range(len(kinds)))
    kinds += [chance.choice([kind for place in plan.places for kind in place[1]] or [plan.catalogue.kinds[0].name])
              for _ in range(chance.randrange(parts + 1))]
    spare = list(range(len(placed), len(kinds)))
    bench = ()
    if spare and plan.places and chance.random() < 0.3:
        place = chance.choice(plan.places)
        if kinds[spare[-1]] in place[1]:
            bench = ((place[0], spare.pop()),)
    ways = [len(plan.catalogue[kind].ways) for kind in kinds]
    told = {tuple(chance.randrange(many + 1) if chance.random() < 0.8 else 0 for many in ways) for _ in range(worlds)}
    return Case(plan, kinds, placed, spare, sorted(told), bench=bench)


def many_works(seed, many, depth=2):
    """Pairs of a case and a manual that fits it, the same ones for the same seed."""
    chance = random.Random(seed)
    found = []
    while len(found) < many:
        case = any_case(chance)
        manual = any_manual(chance, case.plan, depth)
        if len([statement for statement in manual.statements() if statement[0] == "look"]) * manual.weight < 150:
            found.append((case, manual))
    return found


def is_rich(manual):
    """Whether a manual has some looks, and not too many runs."""
    words = [step[0] for step in plain_flow(manual)]
    return 8 <= len(words) <= 60 and 2 <= words.count("look") <= 7 and words[0] not in ("done", "quit")


@functools.cache
def many_rich_works(seed, many):
    """Pairs of a case and a rich manual that fits it."""
    chance = random.Random(seed)
    found = []
    while len(found) < many:
        case = any_case(chance, 3, 5)
        manual = any_manual(chance, case.plan, 3)
        if is_rich(manual):
            found.append((case, manual))
    return found


# A part that blinks gives 0, or 1 now and then; a calm one gives 0, and 1 when it is broken.
BLINK = Kind(2, "blink", 0, (0,), ways=(("flees", "on", (1,)),), price=5)
CALM = Kind(2, "calm", 0, (0,), ways=(("stands", "on", (1,)),), price=7)
LAMPS = Plan(Catalogue(2, (BLINK, CALM)), (), (("b", ("blink",), (), 4), ("s", ("calm",), (), 9)), ("s",))
FLASH = (("now", ((),)),)
BLINKED = ("look", "now", "b")


def lamp_case(spares=8):
    """The part 0 blinks; the calm ones, the part 1 and those on the shelf, are whole."""
    return Case(LAMPS, ("blink", "calm", *["calm"] * spares), (0, 1), tuple(range(2, 2 + spares)),
                ((1,) + (0,) * (1 + spares),))


def wide_manual(says):
    """A manual with 3,989 standings on the lamps, and one more for each of so many statements at its beginning."""
    rounds = ("repeat", 4, (BLINKED, ("if", (1,), (("swap", "s"),), ())))
    own = ("say", "b")
    return Manual(FLASH, (("main", (*[own] * says, rounds, rounds, ("repeat", 4, (own,) * 59), own, own)),))


# A wire passes what comes in on to a cell; a turner can stand in for it, and turns it.
PASS = Kind(2, "pass", 1, (0, 1), ways=(("stands", "zero", (0, 0)), ("stands", "one", (1, 1)),
                                        ("flees", "turn", (1, 0))), price=3)
TURNER = Kind(2, "turner", 1, (1, 0), price=1)
WIRE = Plan(Catalogue(2, (PASS, TURNER, CELL)), ("in",), (("g", ("pass", "turner"), ("in",), 3),
                                                          ("c", ("cell",), ("g",), 5)), ("c",))
WIRED = ("pass", "cell", "pass", "cell", "turner")


def wire_case(*worlds, **told):
    """The parts 0 and 1 are in the machine, a pass, a cell and a turner on the shelf; a world is told by its broken parts."""
    rows = [tuple(dict(broken).get(part, 0) for part in range(5)) for broken in worlds or ((),)]
    told = {"placed": (0, 1), "shelf": (2, 3, 4), **told}
    return Case(WIRE, WIRED, told["placed"], told["shelf"], rows, bench=told.get("bench", ()))


# With the tests of BOOK: the look tells whether the wire gives 0 when 1 comes in; then it is replaced.
MEND = (("look", "one", "g"), ("if", (0,), (("swap", "g"),), ()), ("done",))
ZERO, ONE, TURN, STUCK, DROP = ((0, 1),), ((0, 2),), ((0, 3),), ((1, 1),), ((1, 2),)


@functools.cache
def many_wire_works(seed, many):
    """Pairs of a case with the wire, of which parts often come and go, and a rich manual."""
    chance = random.Random(seed)
    found = []
    while len(found) < many:
        worlds = {chance.choice(((), ZERO, ONE, TURN, TURN, STUCK, DROP, DROP, (*TURN, *DROP), ((2, 3),), (*ZERO, *DROP)))
                  for _ in range(chance.choice((1, 2, 3, 4)))}
        shelf = chance.choice(((), (2,), (2, 3), (2, 3, 4), (4, 3, 2), (3, 4)))
        manual = any_manual(chance, WIRE, 3)
        if is_rich(manual):
            found.append((wire_case(*sorted(worlds), shelf=shelf), manual))
    return found


def as_lists(thing):
    """A thing with lists in the place of its tuples, at any depth."""
    return [as_lists(part) for part in thing] if isinstance(thing, tuple) else thing
