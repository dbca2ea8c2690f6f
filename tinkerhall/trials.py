"""Trials: what a house would have behind some entries."""

from tinkerhall.allowed import worlds


class Kept:
    """What a house had when a block was entered, above what was kept for the blocks around it."""

    def __init__(self, house, below):
        self.entered = house.entered
        self.floors = house.floors
        self.below = below


class Trial:
    """A block behind which the house has just the entries that it had when the block was entered."""

    def __init__(self, house):
        self.house = house
        self._kept = None

    def __enter__(self):
        self._kept = Kept(self.house, self._kept)
        return self.house

    def __exit__(self, kind, value, trace):
        house = self.house
        house.entered = self._kept.entered
        house.floors = self._kept.floors
        self._kept = self._kept.below


def tried(house, entries):
    """The floor and the worlds that the house would have behind these entries."""
    with Trial(house):
        house.enter(*entries)
        return house.floor(), worlds(house)
