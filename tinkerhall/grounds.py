"""Which news a claim stands on."""

from tinkerhall.allowed import all_candidates
from tinkerhall.claims import good_claim, is_broken_by
from tinkerhall.errors import TooMany
from tinkerhall.news import news_with

MOST_NEWS = 8


def grounds(house, claim):
    """All least sets of news in force for which the claim holds, those with fewer news ahead."""
    claim = good_claim(house, claim)
    force = house.in_force()
    if len(force) > MOST_NEWS:
        raise TooMany("news")
    hurdles = _hurdles(house, claim, force)
    found = []
    for numbers in _sets(force):
        smaller = [lot for lot in found if all([number in numbers for number in lot])]
        if not smaller and all([any([number in numbers for number in hurdle]) for hurdle in hurdles]):
            found.append(numbers)
    return tuple(found)


def quarrels(house):
    """All least sets of news that leave no world."""
    return grounds(house, ("none",))


def _hurdles(house, claim, force):
    """For each candidate that breaks the claim the news that bar it, each such set once."""
    news = [(number, news_with(house, number)) for number in force]
    hurdles = {}
    for world in all_candidates(house):
        if is_broken_by(house, world, claim):
            hurdles[tuple([number for number, told in news if not told.allows(world)])] = True
    return list(hurdles)


def _sets(numbers):
    """All sets of these numbers, those with fewer ahead, then as tuples."""
    lots = [()]
    for number in numbers:
        lots = [*lots, *[(*lot, number) for lot in lots]]
    ordered = sorted([(len(lot), lot) for lot in lots])
    return [lot for _, lot in ordered]
