"""The worlds that the news of a house leaves."""

from tinkerhall.errors import NoPart, NoWorld, TooMany
from tinkerhall.forms import is_number
from tinkerhall.news import condition_on, news_with

MOST_CANDIDATES = 2000


def states(house, part, moment=None):
    """The states that a part can have at the moment, ascending."""
    floor = house.floor(moment)
    if not is_number(part, 0, len(floor.kinds) - 1):
        raise NoPart(part)
    ways = len(house.catalogue[floor.kinds[part]])
    return ((0, 0), *[(way, since) for way in range(1, ways + 1)
                      for since in range(floor.came[part], floor.day + 1)])


def candidates(house, moment=None):
    """The number of the candidates of the moment."""
    # For each number of breaks, the worlds of the parts so far.
    counts = [1, *[0] * house.most]
    for lot in _lots(house, moment):
        broken = len(lot) - 1
        counts = [1, *[counts[breaks] + counts[breaks - 1] * broken for breaks in range(1, len(counts))]]
    return sum(counts)


def worlds(house, moment=None):
    """The worlds of the moment, in order."""
    left = all_candidates(house, moment)
    for number in house.in_force(moment):
        news = news_with(house, number)
        left = [world for world in left if news.allows(world)]
    return tuple(left)


def some_worlds(house):
    """The worlds of the present moment, if any is left."""
    left = worlds(house)
    if not left:
        raise NoWorld(house.now)
    return left


def keeps_news(house, world, number):
    """Whether a world keeps the news with this number."""
    return news_with(house, number).allows(world)


def conditions(house, world, day):
    """The conditions of the parts on the day."""
    return tuple([condition_on(state, day) for state in world])


def many_breaks(world):
    """How many parts are ever broken in the world."""
    return len([way for way, _ in world if way != 0])


def _lots(house, moment):
    """For each part that has come ahead of the moment its states."""
    return [states(house, part, moment) for part in range(len(house.floor(moment).kinds))]


def all_candidates(house, moment=None):
    """All candidates of the moment, in order."""
    if candidates(house, moment) > MOST_CANDIDATES:
        raise TooMany("world")
    found = [()]
    for lot in _lots(house, moment):
        found = [(*begun, state) for begun in found
                 for state in (lot if many_breaks(begun) < house.most else lot[:1])]
    ordered = sorted([(many_breaks(world), world) for world in found])
    return [world for _, world in ordered]
