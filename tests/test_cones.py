import itertools
import random
import unittest

from tests import naive
from tests.raising import error_of
from tests.samples import CATALOGUE, EMPTY, EXAMPLE, STILL, TURNED, any_filling, any_row, many_fillings, ring_of
from tinkerhall.cones import cone, delay
from tinkerhall.machines import run
from tinkerhall.plans import Plan


def ways_to(plan, entry, line):
    """The numbers of places that keep on all ways without a line twice."""
    def found(name, gone):
        keeps = 1 if name in plan.keeping else 0
        if name == entry:
            return [keeps]
        if name in plan.entries or name in gone:
            return []
        return [keeps + more for source in plan[name][2] for more in found(source, (*gone, name))]
    return found(line, ())


class ConeTest(unittest.TestCase):
    def test_plain_ones(self):
        self.assertEqual(cone(EXAMPLE, "in"), ("in",))
        self.assertEqual(cone(EXAMPLE, "g"), ("in", "g", "c"))
        self.assertEqual(cone(EXAMPLE, "c"), ("in", "g", "c"))
        self.assertEqual(cone(TURNED, "k"), ("a", "t", "k"))
        self.assertEqual(cone(TURNED, "j"), ("a", "b", "t", "k", "j"))
        self.assertEqual(cone(STILL, "s"), ("s",))
        self.assertEqual(cone(ring_of(3), "l"), ("k", "l", "m"))
        self.assertEqual(cone(EMPTY, "in"), ("in",))

    def test_what_a_line_shows_hangs_on_its_cone_alone(self):
        chance = random.Random(15)
        for plan, filling in many_fillings(61, 150, places=(2, 3, 4, 5), broken=3):
            line = chance.choice(plan.lines)
            inside = cone(plan, line)
            drawn = any_filling(chance, plan, 5)
            other = tuple(pair if place[0] in inside else drawn[at]
                          for at, (place, pair) in enumerate(zip(plan.places, filling)))
            row = any_row(chance, plan, 8)
            changed = tuple(tuple(sign if name in inside else chance.randrange(plan.catalogue.signs)
                                  for name, sign in zip(plan.entries, inputs)) for inputs in row)
            comings = [chance.choice(naive.all_tuples([(0, 1)] * len(plan))) for _ in row]
            spot = plan.lines.index(line)
            self.assertEqual([shown[spot] for shown in run(plan, filling, row, comings)],
                             [shown[spot] for shown in run(plan, other, changed, comings)])

    def test_unknown(self):
        for line in ("no", "gate", None, 1, ["g"]):
            self.assertEqual(error_of(cone, EXAMPLE, line), ("Unknown", line))


class DelayTest(unittest.TestCase):
    def test_plain_ones(self):
        self.assertEqual([delay(EXAMPLE, "in", line) for line in ("in", "g", "c")], [0, 0, 1])
        self.assertEqual([delay(TURNED, "a", line) for line in TURNED.lines], [0, None, 0, 1, 1])
        self.assertEqual([delay(TURNED, "b", line) for line in TURNED.lines], [None, 0, None, None, 0])

    def test_the_least_way(self):
        places = (("k", ("cell",), ("a",), 1), ("l", ("cell",), ("k",), 1), ("m", ("cell",), ("l",), 1),
                  ("g", ("gate",), ("m", "k"), 1), ("h", ("gate",), ("m", "l"), 1))
        plan = Plan(CATALOGUE, ("a",), places, ("g",))
        self.assertEqual([delay(plan, "a", line) for line in plan.lines], [0, 1, 2, 3, 1, 2])

    def test_as_told_for_many_plans(self):
        for plan, _ in many_fillings(62, 150, entries=(1, 2), places=(2, 3, 4, 5)):
            for entry, line in itertools.product(plan.entries, plan.lines):
                self.assertEqual(delay(plan, entry, line), min(ways_to(plan, entry, line), default=None))

    def test_unknown(self):
        for entry in ("no", "g", None, ["in"]):
            self.assertEqual(error_of(delay, EXAMPLE, entry, "none"), ("Unknown", entry))
        self.assertEqual(error_of(delay, EXAMPLE, "in", "none"), ("Unknown", "none"))
        self.assertEqual(error_of(delay, EXAMPLE, "in", None), ("Unknown", None))
