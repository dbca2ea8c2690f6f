"""Exchanges of parts for whole stand-ins, and which of them part."""

from tinkerhall.acting import acts
from tinkerhall.errors import Unfit, Unknown


def exchanged(plan, exchanges):
    """The whole filling with these exchanges."""
    names = [place[0] for place in plan.places]
    told = [place for place, _ in exchanges]
    for at, place in enumerate(told):
        if place not in names or place in told[:at]:
            raise Unknown(place)
    for place, kind in exchanges:
        if kind not in plan[place][1][1:]:
            raise Unfit(place)
    put = {place: kind for place, kind in exchanges}
    return tuple([(put.get(place[0], place[1][0]), 0) for place in plan.places])


def parts(plan, exchanges):
    """Whether these exchanges part."""
    return not acts(plan, exchanged(plan, exchanges))


def least_parting(plan):
    """The least parting sets of exchanges, those with fewer exchanges ahead."""
    found = []
    for exchanges in all_exchanges(plan):
        held = [lot for lot in found if all([pair in exchanges for pair in lot])]
        # A set that parts, and that holds no smaller one that parts, is a least one.
        if not held and parts(plan, exchanges):
            found.append(exchanges)
    return tuple(found)


def all_exchanges(plan):
    """All sets of exchanges, as tuples of pairs of a place and a stand-in."""
    for _, numbers in sorted([(len(numbers), numbers) for numbers in _numbered(plan)]):
        yield tuple([(plan.places[at][0], plan.places[at][1][kind]) for at, kind in numbers])


def _numbered(plan):
    """All sets of exchanges by the numbers of places and kinds, in any order."""
    lots = [()]
    for at, place in enumerate(plan.places):
        lots = [*lots, *[(*lot, (at, kind)) for lot in lots for kind in range(1, len(place[1]))]]
    return lots
