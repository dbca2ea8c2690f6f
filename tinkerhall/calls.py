"""Machines that are called back, and papers for those that are in the clear."""

from tinkerhall.acting import Acting, acts
from tinkerhall.allowed import conditions, some_worlds
from tinkerhall.claims import right_paper
from tinkerhall.news import news_in_force


def called_back(house):
    """For each machine that is given out and does not surely act as whole: itself, the first such world, and a row."""
    left = some_worlds(house)
    calls = []
    for name, _, _, inside in house.floor().machines:
        world = None if inside else _first_bad(house, name, left)
        if world is not None:
            plan, filling = _filled(house, name, conditions(house, world, house.today))
            calls.append((name, world, Acting(plan, filling).row))
    return tuple(calls)


def clearance(house, machine):
    """None if the machine does not surely act as whole; otherwise a paper for each way in which it would not."""
    _, _, parts, _ = house.floor().machine(machine)
    if _first_bad(house, machine, some_worlds(house)) is not None:
        return None
    news = news_in_force(house)
    papers = []
    for row in _rows(house, machine):
        claim = ("never", tuple(list(zip(parts, row))))
        papers.append((row, right_paper(house, news, claim, house.most)))
    return tuple(papers)


def _filled(house, machine, told):
    """The plan of the machine, and its filling with these conditions of all parts."""
    floor = house.floor()
    _, plan, parts, _ = floor.machine(machine)
    return house.plan_of(plan), tuple([(floor.kinds[part], told[part]) for part in parts])


def _first_bad(house, machine, left):
    """The first of these worlds in which the machine does not act as whole today, or None."""
    whole = {}
    for world in left:
        plan, filling = _filled(house, machine, conditions(house, world, house.today))
        if filling not in whole:
            whole[filling] = acts(plan, filling)
        if not whole[filling]:
            return world
    return None


def _rows(house, machine):
    """All rows of conditions for the places, ascending, with few enough breaks, that do not act as whole."""
    floor = house.floor()
    _, name, parts, _ = floor.machine(machine)
    plan = house.plan_of(name)
    kinds = [floor.kinds[part] for part in parts]
    rows = [()]
    for kind in kinds:
        rows = [(*begun, condition) for begun in rows for condition in range(len(house.catalogue[kind]) + 1)
                if condition == 0 or _many_broken(begun) < house.most]
    return [row for row in rows if not acts(plan, tuple(list(zip(kinds, row))))]


def _many_broken(row):
    return len([condition for condition in row if condition != 0])
