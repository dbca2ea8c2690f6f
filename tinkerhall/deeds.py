"""What each entry of a book makes of the floor ahead of it, or why it is refused."""

from tinkerhall.checks import good_row, good_sights
from tinkerhall.errors import Away, Here, NoBench, NoNews, NotThere, TooMany, Twice, Unfit, Unknown
from tinkerhall.news import is_news

MOST_PARTS = 10
MOST_MACHINES = 4
LAST_DAY = 9
MOST_ROW = 8


def floor_behind(house, floor, entry):
    """The floor behind an entry that has its form."""
    deed = DEEDS[entry[0]]
    told = entry[1:]
    return deed(house, floor, *told)


def _come(house, floor, kind, lot):
    if kind not in house.catalogue:
        raise Unknown(kind)
    part = len(floor.kinds)
    if part == MOST_PARTS:
        raise TooMany("part")
    return floor.changed(kinds=(*floor.kinds, kind), lots=(*floor.lots, lot), came=(*floor.came, floor.day),
                         shelf=(*floor.shelf, part))


def _day(house, floor):
    if floor.day == LAST_DAY:
        raise TooMany("day")
    return floor.changed(day=floor.day + 1)


def _build(house, floor, machine, plan, parts):
    if machine in [told[0] for told in floor.machines]:
        raise Twice(machine)
    places = house.plan_of(plan).places
    for at, part in enumerate(parts):
        if part not in floor.shelf or part in parts[:at]:
            raise NotThere(part)
    for at, place in enumerate(places):
        if at >= len(parts) or floor.kinds[parts[at]] not in place[1]:
            raise Unfit(place[0])
    if len(parts) > len(places):
        raise NotThere(parts[len(places)])
    if len(floor.machines) == MOST_MACHINES:
        raise TooMany("machine")
    shelf = tuple([part for part in floor.shelf if part not in parts])
    return floor.changed(shelf=shelf, machines=(*floor.machines, (machine, plan, tuple(parts), True)))


def _swap(house, floor, machine, place, part):
    spot = _spot(house, floor, machine, place)
    if part not in floor.shelf:
        raise NotThere(part)
    if floor.kinds[part] not in _kinds_at(house, floor, machine, place):
        raise Unfit(place)
    out = _part_at(floor, machine, spot)
    return _with_part(floor, machine, spot, part).changed(
        shelf=_without(floor.shelf, part), bench=(*floor.bench, (machine, place, out)))


def _back(house, floor, machine, place):
    spot = _spot(house, floor, machine, place)
    held = [triple for triple in floor.bench if triple[:2] == (machine, place)]
    if not held:
        raise NoBench(place)
    out = _part_at(floor, machine, spot)
    return _with_part(floor, machine, spot, held[-1][2]).changed(
        shelf=(out, *floor.shelf), bench=_without(floor.bench, held[-1]))


def _move(house, floor, machine, place, other, other_place):
    spot = _spot(house, floor, machine, place)
    other_spot = _spot(house, floor, other, other_place)
    part = _part_at(floor, machine, spot)
    other_part = _part_at(floor, other, other_spot)
    if floor.kinds[other_part] not in _kinds_at(house, floor, machine, place):
        raise Unfit(place)
    if floor.kinds[part] not in _kinds_at(house, floor, other, other_place):
        raise Unfit(other_place)
    return _with_part(_with_part(floor, machine, spot, other_part), other, other_spot, part)


def _shelve(house, floor, part):
    bench = _bench_without(floor, part)
    if bench == floor.bench:
        raise NotThere(part)
    return floor.changed(bench=bench, shelf=(*floor.shelf, part))


def _scrap(house, floor, part):
    bench = _bench_without(floor, part)
    if bench == floor.bench and part not in floor.shelf:
        raise NotThere(part)
    return floor.changed(bench=bench, shelf=_without(floor.shelf, part),
                         gone=tuple(sorted([*floor.gone, part])))


def _give(house, floor, machine):
    _judge_inside(floor, machine)
    name, plan, parts, _ = floor.machine(machine)
    return floor.with_machine(name, plan, parts, False)


def _take(house, floor, machine):
    name, plan, parts, inside = floor.machine(machine)
    if inside:
        raise Here(machine)
    return floor.with_machine(name, plan, parts, True)


def _seen(house, floor, moment, machine, row, sights):
    plan = house.plan_of(house.floor(moment).machine(machine)[1])
    good_sights(plan, good_row(plan, row, MOST_ROW), sights)
    return floor


def _told(house, floor, moment, lot, low, high):
    # What was there is not asked, only whether there was such a moment.
    house.floor(moment)
    return floor


def _marked(house, floor, number):
    if not is_news(house, number):
        raise NoNews(number)
    return floor


DEEDS = {"come": _come, "day": _day, "build": _build, "swap": _swap, "back": _back, "move": _move, "shelve": _shelve,
         "scrap": _scrap, "give": _give, "take": _take, "seen": _seen, "told": _told, "strike": _marked,
         "again": _marked}


def _judge_inside(floor, machine):
    if not floor.machine(machine)[3]:
        raise Away(machine)


def _spot(house, floor, machine, place):
    """The number of the place in its plan, if the machine is in."""
    _judge_inside(floor, machine)
    plan = house.plan_of(floor.machine(machine)[1])
    return plan.places.index(plan[place])


def _kinds_at(house, floor, machine, place):
    return house.plan_of(floor.machine(machine)[1])[place][1]


def _part_at(floor, machine, spot):
    return floor.machine(machine)[2][spot]


def _with_part(floor, machine, spot, part):
    name, plan, parts, inside = floor.machine(machine)
    return floor.with_machine(name, plan, (*parts[:spot], part, *parts[spot + 1:]), inside)


def _without(things, gone):
    return tuple([thing for thing in things if thing != gone])


def _bench_without(floor, part):
    return tuple([triple for triple in floor.bench if triple[2] != part])
