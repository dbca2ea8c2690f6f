"""The looker of the document, done plainly and slowly, and papers to judge."""

import itertools

from tests import naive
from tests.houses import condition, plain_floors, plain_in_force

WHOLE = (0, 0)


def plain_breaks(house, world, claim):
    word = claim[0]
    if word == "broken":
        return world[claim[1]] == WHOLE
    if word == "whole":
        return world[claim[1]] != WHOLE
    if word == "breaks":
        return sum(state != WHOLE for state in world) < claim[1]
    if word == "never":
        return all(condition(world[part], house.today) == told for part, told in claim[1])
    return True


def plain_lots(house, claim):
    day, kinds, _, came, _, _, _, _ = plain_floors(house)[-1]
    lots = []
    for part, (kind, begun) in enumerate(zip(kinds, came)):
        lot = [WHOLE] + [(way, since) for way in range(1, len(house.catalogue[kind].ways) + 1)
                         for since in range(begun, day + 1)]
        if claim[0] == "broken" and claim[1] == part:
            lot = [WHOLE]
        if claim[0] == "whole" and claim[1] == part:
            lot = lot[1:]
        if claim[0] == "never" and part in dict(claim[1]):
            lot = [state for state in lot if condition(state, day) == dict(claim[1])[part]]
        lots.append(tuple(lot))
    return tuple(lots)


def tables_of(house, kind, told):
    if told == 0:
        return [house.catalogue[kind].table]
    word, _, table = house.catalogue[kind].ways[told - 1]
    return [table] if word == "stands" else [house.catalogue[kind].table, table]


def step_with(plan, tables, standing, inputs):
    """What all lines show in a step, and the standing behind it, when each place acts by its table here."""
    signs = plan.catalogue.signs
    keeping = [place[0] for place in plan.places if plan.catalogue[place[1][0]].start is not None]
    kept = dict(zip(keeping, standing))
    spots = {place[0]: at for at, place in enumerate(plan.places)}

    def told(name, at):
        for source in plan.places[spots[name]][2]:
            at = at * signs + show(source)
        return tables[spots[name]][at]

    def show(name):
        if name in plan.entries:
            return inputs[plan.entries.index(name)]
        return kept[name] if name in kept else told(name, 0)

    shown = {name: show(name) for name in (*plan.entries, *spots)}
    return shown, tuple(told(name, kept[name]) for name in keeping)


def plain_barred(house, floors, lots, entry):
    day, kinds, names, _, _, _, _, machines = floors[entry[1]]
    if entry[0] == "told":
        lot = [part for part, name in enumerate(names) if name == entry[2]]
        surely = [part for part in lot if all(condition(state, day) for state in lots[part])]
        perhaps = [part for part in lot if any(condition(state, day) for state in lots[part])]
        return len(surely) > entry[4] or len(perhaps) < entry[3]
    _, plan_name, parts, _ = [machine for machine in machines if machine[0] == entry[2]][0]
    plan = dict(house.plans)[plan_name]
    choices = []
    for part in parts:
        conditions = {condition(state, day) for state in lots[part]}
        choices.append([table for told in sorted(conditions) for table in tables_of(house, kinds[part], told)])
    standings = {naive.beginning(plan, [(kinds[part], 0) for part in parts])}
    for at, inputs in enumerate(entry[3]):
        behind = set()
        for standing in standings:
            for tables in itertools.product(*choices):
                shown, after = step_with(plan, tables, standing, inputs)
                if all(shown[line] == sign for step, line, sign in entry[4] if step == at):
                    behind.add(after)
        standings = behind
    return not standings


def plain_look(house, claim, limit, paper):
    """None, or the way to the first paper that is wrong itself."""
    if claim[0] == "breaks":
        limit = min(limit, claim[1] - 1)
    floors = plain_floors(house)
    force = plain_in_force(house.book, house.now)

    def look(paper, lots):
        if not isinstance(paper, tuple) or not paper:
            return ()
        if paper[0] == "many" and len(paper) == 1:
            return None if sum(WHOLE not in lot for lot in lots) > limit else ()
        if paper[0] == "news" and len(paper) == 2 and type(paper[1]) is int and paper[1] in force:
            return None if plain_barred(house, floors, lots, house.book[paper[1]]) else ()
        if paper[0] != "part" or len(paper) != 3 or type(paper[1]) is not int or not 0 <= paper[1] < len(lots):
            return ()
        _, part, papers = paper
        if not isinstance(papers, tuple) or len(papers) != len(lots[part]):
            return ()
        for at, state in enumerate(lots[part]):
            way = look(papers[at], lots[:part] + ((state,),) + lots[part + 1:])
            if way is not None:
                return (at, *way)
        return None

    return look(paper, plain_lots(house, claim))


def any_claim(chance, house):
    kinds = house.floor().kinds
    if not kinds:
        return chance.choice((("none",), ("breaks", 1), ("breaks", 4)))
    part = chance.randrange(len(kinds))
    some = chance.sample(range(len(kinds)), chance.randrange(1, len(kinds) + 1))
    pairs = tuple((one, chance.randrange(len(house.catalogue[kinds[one]].ways) + 1)) for one in some)
    return chance.choice((("broken", part), ("whole", part), ("none",), ("breaks", chance.randrange(1, 5)),
                          ("never", pairs)))


def any_paper(chance, house, deep):
    """A paper that can be wrong anywhere."""
    news = [number for number, entry in enumerate(house.book) if entry[0] in ("seen", "told")]
    parts = len(house.floor().kinds)
    word = chance.choice(("many", "news", "news", "part", "part", "part") if deep else ("many", "news", "news"))
    if word == "many" or word == "news" and not news or word == "part" and not parts:
        return ("many",)
    if word == "news":
        return ("news", chance.choice(news))
    part = chance.randrange(parts)
    lot = plain_lots(house, ("none",))[part]
    many = len(lot) + chance.choice((0, 0, 0, 0, -1))
    return ("part", part, tuple(any_paper(chance, house, deep - 1) for _ in range(many)))
