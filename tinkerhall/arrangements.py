"""Arrangements, and rows of worlds, of a case, as tables tell them."""

from tinkerhall.forms import is_count, is_list, is_number


def are_worlds(case, thing):
    """Whether a thing is an ascending tuple of numbers of worlds; it may be empty."""
    if not is_list(thing) or not all([is_number(world, 0, len(case) - 1) for world in thing]):
        return False
    return all([thing[at - 1] < thing[at] for at in range(1, len(thing))])


def is_arrangement(case, thing):
    """Whether a thing has the parts of the case's arrangement, each once, and only where they fit."""
    if not is_list(thing) or len(thing) != 3 or not all([is_list(spots) for spots in thing]):
        return False
    placed, shelf, bench = thing
    if len(placed) != len(case.placed) or not all([is_list(pair) and len(pair) == 2 for pair in bench]):
        return False
    parts = [*placed, *shelf, *[part for _, part in bench]]
    if not all([is_count(part) for part in parts]) or sorted(parts) != _parts_of(case):
        return False
    kinds = {name: names for name, names, _, _ in case.plan.places}
    if not all([case.kinds[part] in place[1] for place, part in zip(case.plan.places, placed)]):
        return False
    return all([isinstance(name, str) and case.kinds[part] in kinds.get(name, ()) for name, part in bench])


def _parts_of(case):
    return sorted([*case.placed, *case.shelf, *[part for _, part in case.bench]])
