"""Houses that the tests share, and what the document says of them, done plainly and slowly."""

import itertools
import random

from tests import naive
from tests.samples import CATALOGUE, EXAMPLE, TURNED, any_catalogue, any_plan, any_row
from tinkerhall.house import House


def the_house(most=1):
    """A house with a plan with stand-ins, one with two entries, and one without places."""
    bare = EXAMPLE.changed(places=(), exits=("in",))
    return House(CATALOGUE, (("loop", EXAMPLE), ("turned", TURNED), ("bare", bare)), most=most)


def built_house(most=1):
    """Four parts have come on day 0, two more on day 1; the machine `m` has the parts 0 and 1."""
    house = the_house(most)
    house.enter(("come", "gate", "one"), ("come", "cell", "one"), ("come", "join", "two"), ("come", "cold", "two"),
                ("build", "m", "loop", (0, 1)), ("day",), ("come", "cell", "one"), ("come", "gate", "two"))
    return house


class PlainFloor:
    """A floor that each entry changes; no entry is judged."""

    def __init__(self):
        self.day = 0
        self.kinds, self.lots, self.came = [], [], []
        self.shelf, self.bench, self.gone = [], [], []
        self.plans, self.parts, self.inside = {}, {}, {}

    def told(self):
        machines = tuple((name, self.plans[name], tuple(self.parts[name]), self.inside[name]) for name in self.plans)
        return (self.day, tuple(self.kinds), tuple(self.lots), tuple(self.came), tuple(self.shelf), tuple(self.bench),
                tuple(sorted(self.gone)), machines)

    def do(self, house, entry):
        word, *told = entry
        places = {name: [place[0] for place in plan.places] for name, plan in house.plans}

        def spot(machine, place):
            return places[self.plans[machine]].index(place)

        if word == "come":
            self.shelf.append(len(self.kinds))
            self.kinds.append(told[0])
            self.lots.append(told[1])
            self.came.append(self.day)
        elif word == "day":
            self.day += 1
        elif word == "build":
            machine, self.plans[told[0]], parts = told
            self.parts[machine] = list(parts)
            self.inside[machine] = True
            self.shelf = [part for part in self.shelf if part not in parts]
        elif word == "swap":
            machine, place, part = told
            self.shelf.remove(part)
            self.bench.append((machine, place, self.parts[machine][spot(machine, place)]))
            self.parts[machine][spot(machine, place)] = part
        elif word == "back":
            machine, place = told
            held = [triple for triple in self.bench if triple[:2] == (machine, place)][-1]
            self.bench.remove(held)
            self.shelf.insert(0, self.parts[machine][spot(machine, place)])
            self.parts[machine][spot(machine, place)] = held[2]
        elif word == "move":
            one, two = (told[0], spot(*told[:2])), (told[2], spot(*told[2:]))
            first, second = self.parts[one[0]][one[1]], self.parts[two[0]][two[1]]
            self.parts[one[0]][one[1]] = second
            self.parts[two[0]][two[1]] = first
        elif word in ("shelve", "scrap"):
            self.bench = [triple for triple in self.bench if triple[2] != told[0]]
            if word == "shelve":
                self.shelf.append(told[0])
            else:
                self.shelf = [part for part in self.shelf if part != told[0]]
                self.gone.append(told[0])
        elif word in ("give", "take"):
            self.inside[told[0]] = word == "take"


def told_of(floor):
    return (floor.day, floor.kinds, floor.lots, floor.came, floor.shelf, floor.bench, floor.gone, floor.machines)


def plain_floors(house):
    """What each floor of the house must tell, from the beginning to the present moment."""
    floor = PlainFloor()
    found = [floor.told()]
    for entry in house.book:
        floor.do(house, entry)
        found.append(floor.told())
    return found


def plain_in_force(book, moment):
    force = []
    for number, entry in enumerate(book[:moment]):
        if entry[0] in ("seen", "told"):
            marks = [mark for mark in book[:moment] if mark[0] in ("strike", "again") and mark[1] == number]
            if not marks or marks[-1][0] == "again":
                force.append(number)
    return tuple(force)


def condition(state, day):
    return state[0] if state != (0, 0) and state[1] <= day else 0


def plain_keeps(house, floors, world, entry):
    day, kinds, lots, _, _, _, _, machines = floors[entry[1]]
    if entry[0] == "told":
        broken = [part for part, lot in enumerate(lots) if lot == entry[2] and condition(world[part], day)]
        return entry[3] <= len(broken) <= entry[4]
    _, plan, parts, _ = [machine for machine in machines if machine[0] == entry[2]][0]
    filling = tuple((kinds[part], condition(world[part], day)) for part in parts)
    return naive.can_show(dict(house.plans)[plan], filling, entry[3], entry[4])


def plain_candidates(house, floor):
    """All worlds with at most so many breaks, in order; the floor is as PlainFloor tells it."""
    day, kinds, _, came, _, _, _, _ = floor
    states = [[(0, 0)] + [(way, since) for way in range(1, len(house.catalogue[kind].ways) + 1)
                          for since in range(begun, day + 1)] for kind, begun in zip(kinds, came)]
    broken = [(sum(state != (0, 0) for state in world), world) for world in itertools.product(*states)]
    return [world for breaks, world in sorted(broken) if breaks <= house.most]


def plain_worlds(house, moment):
    floors = plain_floors(house)
    force = [house.book[number] for number in plain_in_force(house.book, moment)]
    return tuple(world for world in plain_candidates(house, floors[moment])
                 if all(plain_keeps(house, floors, world, entry) for entry in force))


def true_sights(chance, house, secret, moment, machine, row):
    """Some of what the machine shows on the row in the secret world."""
    floor = house.floor(moment)
    _, name, parts, _ = floor.machine(machine)
    plan = house.plan_of(name)
    filling = tuple((floor.kinds[part], condition(secret[part], floor.day)) for part in parts)
    comings = tuple(chance.choice(naive.all_comings(plan, filling)) for _ in row)
    shown = naive.run(plan, filling, row, comings)
    spots = [(at, line) for at in range(len(row)) for line in plan.lines]
    return tuple((at, line, naive.at_lines(plan, shown[at], (line,))[0])
                 for at, line in chance.sample(spots, min(len(spots), chance.choice((1, 1, 2)))))


def any_news(chance, house, secret):
    """News that are true in the secret world, but now and then."""
    moment = chance.randrange(house.now + 1)
    floor = house.floor(moment)
    if floor.machines and chance.random() < 0.7:
        machine = chance.choice(floor.machines)[:2]
        row = any_row(chance, house.plan_of(machine[1]), 3)
        return ("seen", moment, machine[0], row, true_sights(chance, house, secret, moment, machine[0], row))
    lot = chance.choice(("one", "two"))
    broken = len([part for part, name in enumerate(floor.lots) if name == lot and condition(secret[part], floor.day)])
    low = max(0, broken - chance.choice((0, 0, 1)) + chance.choice((0, 0, 0, 0, 1)))
    return ("told", moment, lot, low, low + chance.choice((0, 1)))


def any_entry(chance, house, secret):
    """An entry that the house may refuse."""
    floor = house.floor()
    words = ["come", "come", "build", "build", "day"]
    if floor.machines:
        words += ["swap", "swap", "swap", "back", "back", "move", "give", "take", "take", "news", "news", "strike", "again"]
        words += ["shelve", "scrap"] if chance.random() < 0.3 else []
    word = chance.choice(words)
    if word == "news":
        return any_news(chance, house, secret)
    if word == "come":
        wanted = [kind for place in house.plans[0][1].places for kind in place[1]]
        wanted = wanted or [kind.name for kind in house.catalogue]
        return (word, chance.choice(wanted), chance.choice(("one", "two")))
    if word == "build":
        name, plan = chance.choice(house.plans)
        left = list(floor.shelf)
        parts = []
        for place in plan.places:
            fitting = [one for one in left if floor.kinds[one] in place[1]]
            if fitting:
                parts.append(fitting[0])
                left.remove(fitting[0])
        return (word, chance.choice(("ma", "mb")), name, tuple(parts))
    if word in ("strike", "again"):
        news = [number for number, entry in enumerate(house.book) if entry[0] in ("seen", "told")]
        return (word, chance.choice([*news, house.now]))
    part = chance.choice([0, *floor.shelf, *floor.shelf, *[triple[2] for triple in floor.bench]])
    if word in ("shelve", "scrap"):
        return (word, part)
    spots = [(machine[0], place[0]) for machine in floor.machines for place in house.plan_of(machine[1]).places]
    spot, other = chance.choice([*spots, ("ma", "none")]), chance.choice([*spots, ("mb", "none")])
    return {"day": (word,), "swap": (word, *spot, part), "back": (word, *spot), "move": (word, *spot, *other),
            "give": (word, spot[0]), "take": (word, spot[0])}[word]


def any_house(chance, tries, most, parts=4):
    """A small house in which so many entries were tried, some of which it has refused."""
    catalogue = any_catalogue(chance, 2)
    plans = tuple((name, any_plan(chance, catalogue, 1, chance.choice((0, 1, 1, 1, 2)))) for name in ("pa", "pb"))
    house = House(catalogue, plans, most=most)
    secret = []
    for _ in range(tries):
        entry = any_entry(chance, house, secret)
        if entry[0] == "come" and len(secret) == parts or entry[0] == "day" and house.today == 2:
            continue
        try:
            house.enter(entry)
        except ValueError:
            continue
        if entry[0] == "come":
            ways = len(catalogue[entry[1]].ways)
            breaks = sum(state != (0, 0) for state in secret) < most and ways > 0 and chance.random() < 0.6
            secret.append((chance.randrange(1, ways + 1), chance.randrange(house.today, 3)) if breaks else (0, 0))
    return house


def many_houses(seed, many, *, tries=40, most=(0, 1, 2, 3), parts=4):
    chance = random.Random(seed)
    return [any_house(chance, tries, chance.choice(most), parts) for _ in range(many)]
