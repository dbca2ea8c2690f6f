"""A case and a menu made ready to be asked for nodes."""

from tinkerhall.errors import BadGoal
from tinkerhall.forms import is_list
from tinkerhall.readings import Readings
from tinkerhall.wholes import Wholes


class NodeWork:
    """Answers what can be done at nodes, with or without a goal."""

    def __init__(self, case, goal):
        if not _is_goal(case, goal):
            raise BadGoal(goal)
        self.case = case
        self._goal = None if goal is None else tuple(goal)
        self._readings = Readings(case)
        self._wholes = Wholes(case)

    def first_node(self):
        """The node with which the case begins."""
        return self.case.arrangement, tuple(range(len(self.case)))

    def meets(self, node):
        """Whether the node is met."""
        arrangement, left = node
        if self._goal is None:
            return all([self._wholes.acts_in(arrangement, world) for world in left])
        return all([self._goal[world] == self._goal[left[0]] for world in left])

    def deeds_of(self, menu, node):
        """The deeds at a node, in order."""
        if self.meets(node):
            return []
        looks = [("look", test, line) for test, line in menu]
        return [*looks, *[("swap", place[0]) for place in self.case.plan.places if self._can_swap(place[0], node)]]

    def led_to(self, menu, node, deed):
        """The followers by a deed, as pairs (sign, node); the sign is -1 for a swap."""
        arrangement, left = node
        if deed[0] == "swap":
            return [(-1, (self.case.swapped(deed[1], arrangement), left))]
        parted = self._readings.parted(menu.test_row(deed[1]), deed[2], arrangement, left)
        return [(sign, (arrangement, worlds)) for sign, worlds in parted]

    def minutes_of(self, menu, deed):
        """The minutes that a deed takes."""
        return self.case.plan[deed[1]][3] if deed[0] == "swap" else len(menu.test_row(deed[1])) + 1

    def _can_swap(self, place, node):
        arrangement, left = node
        return self.case.swapped(place, arrangement) is not None and not self.case.cleared(place, left, arrangement)


def _is_goal(case, thing):
    if thing is None:
        return True
    if not is_list(thing) or len(thing) != len(case):
        return False
    return all([isinstance(answer, int) and not isinstance(answer, bool) for answer in thing])
