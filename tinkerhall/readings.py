"""What can be read in the worlds of a case."""

from tinkerhall.showings import readable


class Readings:
    """Tells the signs that can be read, and keeps what it has worked out."""

    def __init__(self, case):
        self._case = case
        # By row, line and filling; then by row, line and parts in the places, for each world.
        self._told = {}
        self._worlds = {}
        self._parted = {}

    def signs_in(self, row, line, arrangement, world):
        """The signs that can be read at the line behind the row in a world, ascending."""
        told = self._worlds.setdefault((row, line, arrangement[0]), {})
        if world not in told:
            told[world] = self._signs_of(row, line, self._case.filling_in(world, arrangement))
        return told[world]

    def parted(self, row, line, arrangement, left):
        """For each sign, ascending, that can be read in some of these worlds: the sign, and those worlds."""
        told = (row, line, arrangement[0], left)
        if told not in self._parted:
            met = {}
            for world in left:
                for sign in self.signs_in(row, line, arrangement, world):
                    met.setdefault(sign, []).append(world)
            self._parted[told] = [(sign, tuple(met[sign])) for sign in sorted(met)]
        return self._parted[told]

    def _signs_of(self, row, line, filling):
        told = (row, line, filling)
        if told not in self._told:
            self._told[told] = readable(self._case.plan, filling, row, line)
        return self._told[told]
