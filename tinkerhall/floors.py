"""The floor of a house: what there is, and where."""

from tinkerhall.errors import NoPart, Unknown
from tinkerhall.forms import is_number


class Floor:
    """A floor as it was at a moment; `places` has the names of the places of each plan of the house."""

    def __init__(self, places, *, day=0, kinds=(), lots=(), came=(), shelf=(), bench=(), gone=(), machines=()):
        self._places = places
        self.day = day
        self.kinds = kinds
        self.lots = lots
        self.came = came
        self.shelf = shelf
        self.bench = bench
        self.gone = gone
        self.machines = machines

    def __eq__(self, other):
        return (isinstance(other, Floor) and self.day == other.day and self.kinds == other.kinds
                and self.lots == other.lots and self.came == other.came and self.shelf == other.shelf
                and self.bench == other.bench and self.gone == other.gone and self.machines == other.machines)

    def where(self, part):
        """Where the part is."""
        if not is_number(part, 0, len(self.kinds) - 1):
            raise NoPart(part)
        if part in self.shelf:
            return ("shelf",)
        for machine, place, held in self.bench:
            if held == part:
                return ("bench", machine, place)
        for name, plan, parts, _ in self.machines:
            if part in parts:
                return ("place", name, self._places[plan][parts.index(part)])
        return ("gone",)

    def machine(self, name):
        """The name, plan and parts of a machine, and whether it is in."""
        for told in self.machines:
            if told[0] == name:
                return told
        raise Unknown(name)

    def changed(self, **told):
        """The floor with some of its attributes exchanged."""
        kept = {"day": self.day, "kinds": self.kinds, "lots": self.lots, "came": self.came, "shelf": self.shelf,
                "bench": self.bench, "gone": self.gone, "machines": self.machines, **told}
        return Floor(self._places, **kept)

    def with_machine(self, name, plan, parts, inside):
        """The floor on which the machine of this name is so."""
        machines = [(name, plan, parts, inside) if machine[0] == name else machine for machine in self.machines]
        return self.changed(machines=tuple(machines))
