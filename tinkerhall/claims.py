"""Claims on all worlds that are left, and how they are decided."""

from tinkerhall.allowed import conditions, many_breaks, worlds
from tinkerhall.errors import BadClaim, BadLimit
from tinkerhall.forms import are_different, as_tuples, is_list, is_number
from tinkerhall.news import news_in_force
from tinkerhall.papers import WHOLE, limit_of, lots_of, too_many, with_state

MOST_CLAIMED = 4


def breaks_claim(house, world, claim):
    """Whether a world breaks the claim."""
    claim = good_claim(house, claim)
    return is_broken_by(house, as_tuples(world), claim)


def decide(house, claim, *, limit=None):
    """A right paper for the claim, or the first world that breaks it."""
    claim = good_claim(house, claim)
    limit = good_limit(house, limit)
    for world in worlds(house):
        if many_breaks(world) <= limit and is_broken_by(house, world, claim):
            return "world", world
    return "paper", right_paper(house, news_in_force(house), claim, limit)


def right_paper(house, news, claim, limit):
    """A right paper for a claim that holds; `news` is all that is in force."""
    return _paper(news, lots_of(house, claim), limit_of(claim, limit))


def good_claim(house, claim):
    """The claim as tuples, if it is one for the house."""
    if not _is_claim(house, claim):
        raise BadClaim(claim)
    return as_tuples(claim)


def good_limit(house, limit):
    """The limit, which is that of the house if none is told."""
    if limit is None:
        return house.most
    if not is_number(limit, 0, house.most):
        raise BadLimit(limit)
    return limit


def _is_claim(house, thing):
    if not is_list(thing) or len(thing) == 0 or thing[0] not in ("broken", "whole", "none", "breaks", "never"):
        return False
    if thing[0] == "none":
        return len(thing) == 1
    if len(thing) != 2:
        return False
    if thing[0] == "breaks":
        return is_number(thing[1], 1, MOST_CLAIMED)
    return _are_pairs(house, thing[1]) if thing[0] == "never" else _is_part(house, thing[1])


def _is_part(house, thing):
    return is_number(thing, 0, len(house.floor().kinds) - 1)


def _are_pairs(house, thing):
    if not is_list(thing) or len(thing) == 0 or not all([_is_pair(house, pair) for pair in thing]):
        return False
    return are_different([part for part, _ in thing])


def _is_pair(house, thing):
    if not is_list(thing) or len(thing) != 2 or not _is_part(house, thing[0]):
        return False
    return is_number(thing[1], 0, len(house.catalogue[house.floor().kinds[thing[0]]]))


def is_broken_by(house, world, claim):
    if claim[0] == "broken":
        return world[claim[1]] == WHOLE
    if claim[0] == "whole":
        return world[claim[1]] != WHOLE
    if claim[0] == "breaks":
        return many_breaks(world) < claim[1]
    if claim[0] == "never":
        today = conditions(house, world, house.today)
        return all([today[part] == condition for part, condition in claim[1]])
    return True


def _paper(news, lots, limit):
    """A right paper for these lots; only for a claim that holds."""
    if () in lots:
        return "part", lots.index(()), ()
    if too_many(lots, limit):
        return ("many",)
    for number, told in news.items():
        if told.barred(lots):
            return "news", number
    # A part that no news touches bars no world, so there is always a touched one that is open.
    part = [part for told in news.values() for part in told.parts if len(lots[part]) > 1][0]
    return "part", part, tuple([_paper(news, with_state(lots, part, state), limit) for state in lots[part]])
