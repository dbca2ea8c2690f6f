"""In which worlds of a case the machine acts as whole."""

from tinkerhall.acting import acts


class Wholes:
    """Tells whether fillings act as whole, and keeps what it has worked out."""

    def __init__(self, case):
        self._case = case
        # By the filling; and by the parts in the places, for each world.
        self._told = {}
        self._worlds = {}

    def acts_in(self, arrangement, world):
        """Whether the filling in this world acts as whole."""
        told = self._worlds.setdefault(arrangement[0], {})
        if world not in told:
            filling = self._case.filling_in(world, arrangement)
            if filling not in self._told:
                self._told[filling] = acts(self._case.plan, filling)
            told[world] = self._told[filling]
        return told[world]
