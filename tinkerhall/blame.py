"""What holds in all worlds that are left, or in the least ones."""

from tinkerhall.allowed import many_breaks, some_worlds, worlds
from tinkerhall.errors import NoPart
from tinkerhall.forms import is_number


def fewest(house):
    """The fewest breaks of a world."""
    return many_breaks(some_worlds(house)[0])


def least_worlds(house):
    """The worlds with the fewest breaks."""
    left = some_worlds(house)
    return tuple([world for world in left if many_breaks(world) == many_breaks(left[0])])


def blamed_parts(house):
    """The parts that are broken in every least world."""
    return _with_word(least_worlds(house), "sure")


def sure_parts(house):
    """The parts that are broken in every world."""
    return _with_word(some_worlds(house), "sure")


def cleared_parts(house):
    """The parts that are whole in every world."""
    return _with_word(some_worlds(house), "cleared")


def open_parts(house):
    """The parts that are broken in some worlds and whole in others."""
    return _with_word(some_worlds(house), "open")


def since(house, part):
    """The earliest and the latest day since which the part is broken, each with the first such world."""
    _judge_part(house, part)
    broken = [world for world in some_worlds(house) if world[part][0] != 0]
    if not broken:
        return None
    days = [world[part][1] for world in broken]
    return min(days), broken[days.index(min(days))], max(days), broken[days.index(max(days))]


def history(house, part):
    """What was known of the part at each moment behind its coming."""
    _judge_part(house, part)
    words = {}
    for moment in range(1, house.now + 1):
        floor = house.floor(moment)
        if part < len(floor.kinds):
            # The worlds hang on these alone.
            told = (len(floor.kinds), floor.day, house.in_force(moment))
            if told not in words:
                words[told] = _word(worlds(house, moment), part)
            yield words[told]


def _word(left, part):
    if not left:
        return "none"
    broken = [world[part][0] != 0 for world in left]
    if all(broken):
        return "sure"
    return "open" if any(broken) else "cleared"


def _with_word(left, word):
    return tuple([part for part in range(len(left[0])) if _word(left, part) == word])


def _judge_part(house, part):
    if not is_number(part, 0, len(house.floor().kinds) - 1):
        raise NoPart(part)
