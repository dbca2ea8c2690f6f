"""Machines: a plan and a filling, driven step by step."""

from tinkerhall.checks import good_filling, good_row
from tinkerhall.drives import Drive


def step(plan, filling, standing, inputs, coming=None):
    """The signs of all lines, and the standing behind the step."""
    filling = good_filling(plan, filling)
    if coming is None:
        coming = _none_comes(plan)
    return Drive(plan, filling).moved(standing, inputs, coming)


def beginning(plan, filling):
    """The standing of the beginning."""
    return Drive(plan, good_filling(plan, filling)).start


def run(plan, filling, row, comings=()):
    """The signs of all lines at each step of the row."""
    drive = Drive(plan, good_filling(plan, filling))
    shown, _ = _driven(drive, drive.start, good_row(plan, row), comings, _none_comes(plan))
    return tuple(shown)


class Machine:
    """A machine that goes on from the standing where it is."""

    def __init__(self, plan, filling):
        self.plan = plan
        self.filling = good_filling(plan, filling)
        self._drive = Drive(plan, self.filling)
        self._exits = [plan.lines.index(name) for name in plan.exits]
        self._standing = self._drive.start

    @property
    def standing(self):
        return self._standing

    @standing.setter
    def standing(self, value):
        self._standing = tuple(value)

    def go(self, *steps, comings=()):
        """Does these steps, and tells what the exits show at each."""
        shown, self._standing = _driven(self._drive, self._standing, steps, comings, _none_comes(self.plan))
        return tuple([tuple([signs[spot] for spot in self._exits]) for signs in shown])

    def fresh(self):
        """A machine of the same filling at the beginning."""
        return Machine(self.plan, self.filling)

    def copy(self):
        other = Machine(self.plan, self.filling)
        other.standing = self._standing
        return other

    def __eq__(self, other):
        return (isinstance(other, Machine) and self.plan == other.plan and self.filling == other.filling
                and self._standing == other._standing)


def _driven(drive, standing, row, comings, lacking):
    """What all lines show at each step of the row, and the standing behind it."""
    shown = []
    for at, inputs in enumerate(row):
        coming = comings[at] if at < len(comings) else lacking
        signs, standing = drive.moved(standing, inputs, coming)
        shown.append(signs)
    return shown, standing


def _none_comes(plan):
    return (0,) * len(plan.places)
