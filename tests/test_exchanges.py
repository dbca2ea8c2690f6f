import itertools
import random
import unittest

from tests.raising import error_of
from tests.samples import EMPTY, EXAMPLE, GATE, STILL, TURNED, many_fillings
from tinkerhall.acting import acts
from tinkerhall.exchanges import all_exchanges, exchanged, least_parting, parts
from tinkerhall.kinds import Catalogue, Kind
from tinkerhall.plans import Plan

# What is turned twice is as it was: one stand-in alone parts, both together do not.
TURN = Kind(2, "turn", 1, (1, 0))
SAME = Kind(2, "same", 1, (0, 1))
FLAT = Kind(2, "flat", 1, (0, 0))
TWICE = Plan(Catalogue(2, (TURN, SAME, FLAT)), ("a",), (("p", ("turn", "same", "flat"), ("a",), 1),
                                                        ("q", ("turn", "same"), ("p",), 1)), ("q",))
# Either gate alone keeps the exit at 0; only both together let it go.
ONE = Kind(2, "one", 1, (1, 1))
BOTH = Plan(Catalogue(2, (FLAT, ONE, GATE)), ("a",), (("p", ("flat", "one"), ("a",), 1), ("q", ("flat", "one"), ("a",), 1),
                                                      ("g", ("gate",), ("p", "q"), 1)), ("g",))


def plainly(plan):
    """All sets of exchanges, ordered as the document says."""
    lots = []
    for kinds in itertools.product(*[range(len(place[1])) for place in plan.places]):
        lots.append(tuple((at, kind) for at, kind in enumerate(kinds) if kind))
    return [tuple((plan.places[at][0], plan.places[at][1][kind]) for at, kind in lot)
            for lot in sorted(lots, key=lambda lot: (len(lot), lot))]


def any_gates(chance):
    """A plan of four places of two inputs, each with stand-ins that give nearly what its own kind gives."""
    tables = ((0, 0, 0, 1), (0, 0, 0, 0), (0, 0, 1, 1), (0, 1, 1, 1), (0, 1, 0, 1))
    kinds = [Kind(2, "k" + "abcde"[at], 2, table) for at, table in enumerate(tables)]
    lines = ["x", "y"]
    places = []
    for name in "pqrs":
        told = chance.sample([kind.name for kind in kinds], chance.choice((1, 2, 3)))
        places.append((name, told, (chance.choice(lines), chance.choice(lines)), 1))
        lines.append(name)
    return Plan(Catalogue(2, kinds), ("x", "y"), places, ("s",))


class ExchangesTest(unittest.TestCase):
    def test_exchanged(self):
        self.assertEqual(exchanged(EXAMPLE, ()), EXAMPLE.own)
        self.assertEqual(exchanged(EXAMPLE, [["c", "cold"]]), (("gate", 0), ("cold", 0)))
        self.assertEqual(exchanged(EXAMPLE, (("c", "cold"), ("g", "join"))), (("join", 0), ("cold", 0)))
        self.assertEqual(exchanged(EMPTY, ()), ())

    def test_all_exchanges(self):
        self.assertEqual(list(all_exchanges(TWICE)), [
            (), (("p", "same"),), (("p", "flat"),), (("q", "same"),),
            (("p", "same"), ("q", "same")), (("p", "flat"), ("q", "same"))])
        self.assertEqual(list(all_exchanges(EMPTY)), [()])
        self.assertEqual(list(all_exchanges(STILL)), [()])
        wide = Plan(Catalogue(2, (TURN, SAME, FLAT)), ("a",), [
            (name, ("turn", "same", "flat"), ("a",), 1) for name in "pqrstu"], ("u",))
        self.assertEqual(list(all_exchanges(wide)), plainly(wide))
        self.assertEqual(len(list(all_exchanges(wide))), 729)

    def test_parts(self):
        self.assertIs(parts(EXAMPLE, ()), False)
        self.assertIs(parts(EXAMPLE, (("g", "join"),)), True)
        self.assertIs(parts(TWICE, [["q", "same"], ["p", "same"]]), False)

    def test_least_parting(self):
        self.assertEqual(least_parting(TWICE), ((("p", "same"),), (("p", "flat"),), (("q", "same"),)))
        self.assertEqual(least_parting(BOTH), ((("p", "one"), ("q", "one")),))
        self.assertEqual(least_parting(EMPTY), ())
        self.assertEqual(least_parting(TURNED), ((("j", "gate"),),))

    def test_as_told_for_many_plans(self):
        deep = 0
        chance = random.Random(64)
        flat = [(any_gates(chance), None) for _ in range(60)]
        for plan, _ in many_fillings(61, 100) + flat:
            told = plainly(plan)
            self.assertEqual(list(all_exchanges(plan)), told)
            parting = [lot for lot in told if not acts(plan, exchanged(plan, lot))]
            least = [lot for lot in parting
                     if not any(set(other) < set(lot) for other in parting)]
            self.assertEqual(least_parting(plan), tuple(least))
            deep += any(len(lot) > 1 for lot in least)
        self.assertGreater(deep, 5)

    def test_errors(self):
        for call in (exchanged, parts):
            self.assertEqual(error_of(call, EXAMPLE, (("g", "odd"), ("in", "cell"))), ("Unknown", "in"))
            self.assertEqual(error_of(call, EXAMPLE, (("g", "odd"), ("g", "join"), ("odd", "join"))), ("Unknown", "g"))
            self.assertEqual(error_of(call, EXAMPLE, (("g", "join"), ("c", "cell"))), ("Unfit", "c"))
            self.assertEqual(error_of(call, EXAMPLE, (("c", "cold"), ("g", "cold"))), ("Unfit", "g"))
            self.assertEqual(error_of(call, EXAMPLE, (("c", "odd"),)), ("Unfit", "c"))
