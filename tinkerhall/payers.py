"""Who pays for a part, by the terms of the house."""

from tinkerhall.allowed import some_worlds
from tinkerhall.errors import BadTerms, NoPart
from tinkerhall.forms import is_list, is_number
from tinkerhall.news import condition_on
from tinkerhall.signs import is_name

MOST_CLAUSES = 6
MOST_DAYS = 9


def payer_in(house, terms, part, world):
    """Who pays for the part in this world."""
    _judge(house, terms, part)
    return _payer(house, terms, part, world)


def payer(house, terms, part):
    """Who pays for the part in all worlds; or the first world, and the first one in which somebody else pays."""
    _judge(house, terms, part)
    left = some_worlds(house)
    first = _payer(house, terms, part, left[0])
    for world in left:
        other = _payer(house, terms, part, world)
        if other != first:
            return "open", left[0], first, world, other
    return "sure", first


def _payer(house, terms, part, world):
    floor = house.floor()
    if condition_on(world[part], floor.day) == 0:
        return "house"
    _, since = world[part]
    for name, kind, days in terms:
        if kind in ("any", floor.kinds[part]) and since - floor.came[part] <= days:
            return name
    return "customer"


def _judge(house, terms, part):
    if not is_list(terms) or len(terms) > MOST_CLAUSES:
        raise BadTerms(-1)
    for at, clause in enumerate(terms):
        if not _is_clause(house, clause):
            raise BadTerms(at)
    if not is_number(part, 0, len(house.floor().kinds) - 1):
        raise NoPart(part)


def _is_clause(house, thing):
    if not is_list(thing) or len(thing) != 3 or not is_name(thing[0]):
        return False
    return (thing[1] == "any" or thing[1] in house.catalogue) and is_number(thing[2], 0, MOST_DAYS)
