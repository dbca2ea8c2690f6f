"""What papers are judged by: lots of states, and a limit of breaks."""

from tinkerhall.allowed import states

WHOLE = (0, 0)


def lots_of(house, claim):
    """For each part the states that it may have at the beginning, if the claim is broken."""
    lots = [states(house, part) for part in range(len(house.floor().kinds))]
    return tuple([tuple([state for state in lot if _may_have(claim, part, state)]) for part, lot in enumerate(lots)])


def limit_of(claim, limit):
    """The most breaks that a world can have that breaks the claim."""
    return min(limit, claim[1] - 1) if claim[0] == "breaks" else limit


def too_many(lots, limit):
    """Whether more parts than the limit are surely broken."""
    return len([lot for lot in lots if WHOLE not in lot]) > limit


def with_state(lots, part, state):
    """The lots where this part has only this state."""
    return (*lots[:part], (state,), *lots[part + 1:])


def _may_have(claim, part, state):
    if claim[0] == "broken":
        return part != claim[1] or state == WHOLE
    if claim[0] == "whole":
        return part != claim[1] or state != WHOLE
    if claim[0] == "never":
        # At the present moment, what is ever broken is broken today.
        return all([other != part or state[0] == condition for other, condition in claim[1]])
    return True
