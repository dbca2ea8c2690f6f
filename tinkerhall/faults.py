"""What breaks a manual, whatever the minutes."""

from tinkerhall.wholes import Wholes


class Faults:
    """Tells the words that are due in standings."""

    def __init__(self, work, strict):
        self._work = work
        self._strict = strict
        self._wholes = Wholes(work.case)

    def worlds_broken(self, standing):
        """The worlds left in which a word is due."""
        step, arrangement, _, left = standing
        due = self._work.steps[step]
        if due[0] == "swap":
            return [] if self._word_of_swap(due[1], arrangement, left) is None else list(left)
        return [world for world in left if self.word_in(standing, world) is not None]

    def word_in(self, standing, world):
        """The first word that is due in a world left, or None."""
        step, arrangement, _, left = standing
        due = self._work.steps[step]
        if due[0] == "swap":
            return self._word_of_swap(due[1], arrangement, left)
        if due[0] == "say":
            return "untrue" if self._is_whole(due[1], arrangement, world) else None
        if due[0] == "done":
            return None if self._wholes.acts_in(arrangement, world) else "bad"
        return "quit" if due[0] == "quit" and self._strict else None

    def _word_of_swap(self, place, arrangement, left):
        case = self._work.case
        if case.swapped(place, arrangement) is None:
            return "lack"
        return "cleared" if case.cleared(place, left, arrangement) else None

    def _is_whole(self, place, arrangement, world):
        names = [told[0] for told in self._work.case.plan.places]
        return self._work.case[world][arrangement[0][names.index(place)]] == 0
