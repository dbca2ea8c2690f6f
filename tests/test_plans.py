import unittest

from tests.raising import error_of
from tests.samples import CATALOGUE, CELL, EMPTY, EXAMPLE, GATE, STILL, TURNED, ring_of
from tinkerhall.kinds import Catalogue, Kind
from tinkerhall.plans import Plan

ENTRIES = ("in",)
PLACES = (("g", ("gate",), ("in", "c"), 3), ("c", ("cell",), ("g",), 5))


def plan_error(entries=ENTRIES, places=PLACES, exits=("c",)):
    return error_of(Plan, CATALOGUE, entries, places, exits)


def turns(*sources):
    """Places p, q, r .. that turn what these lines show."""
    return tuple((name, ("turn",), (source,), 1) for name, source in zip("pqrstuvw", sources))


class PlanTest(unittest.TestCase):
    def test_attributes_are_tuples(self):
        plan = Plan(CATALOGUE, ["in"], [["g", ["gate", "join"], ["in", "c"], 3], ["c", ["cell", "cold"], ["g"], 5]], ["c"])
        self.assertEqual(plan, EXAMPLE)
        self.assertEqual((plan.catalogue, plan.entries, plan.exits), (CATALOGUE, ("in",), ("c",)))
        self.assertEqual(plan.places, (("g", ("gate", "join"), ("in", "c"), 3), ("c", ("cell", "cold"), ("g",), 5)))

    def test_lines_keeping_own(self):
        self.assertEqual(EXAMPLE.lines, ("in", "g", "c"))
        self.assertEqual(EXAMPLE.keeping, ("c",))
        self.assertEqual(EXAMPLE.own, (("gate", 0), ("cell", 0)))
        self.assertEqual((EMPTY.lines, EMPTY.keeping, EMPTY.own), (("in",), (), ()))
        self.assertEqual(ring_of(3).keeping, ("k", "l", "m"))

    def test_items_length_and_iteration(self):
        self.assertEqual(EXAMPLE["c"], ("c", ("cell", "cold"), ("g",), 5))
        for name in ("in", "x", None, 0, ["c"]):
            self.assertEqual(error_of(EXAMPLE.__getitem__, name), ("Unknown", name))
        self.assertTrue("in" in EXAMPLE)
        self.assertTrue("g" in EXAMPLE)
        for thing in ("gate", "", None, ["g"]):
            self.assertFalse(thing in EXAMPLE)
        self.assertEqual((len(EXAMPLE), len(EMPTY), list(EXAMPLE)), (2, 0, ["in", "g", "c"]))

    def test_equal(self):
        self.assertEqual(Plan(CATALOGUE, ENTRIES, PLACES, ("c",)), Plan(CATALOGUE, list(ENTRIES), list(PLACES), ["c"]))
        base = Plan(CATALOGUE, ENTRIES, PLACES, ("c",))
        self.assertNotEqual(base, Plan(Catalogue(2, (GATE, CELL)), ENTRIES, PLACES, ("c",)))
        self.assertNotEqual(base, base.changed(exits=("g",)))
        self.assertNotEqual(base, base.changed(entries=("in", "more")))
        self.assertNotEqual(base, base.changed(places=(PLACES[0][:3] + (4,), PLACES[1])))
        self.assertFalse(base == "plan")

    def test_changed(self):
        self.assertEqual(EXAMPLE.changed(), EXAMPLE)
        other = EXAMPLE.changed(exits=["g", "in"], entries=["in", "on"])
        self.assertEqual((other.entries, other.places, other.exits), (("in", "on"), EXAMPLE.places, ("g", "in")))
        self.assertEqual(error_of(EXAMPLE.changed, entries=("on",)), ("Unknown", "in"))
        self.assertEqual(error_of(EXAMPLE.changed, exits=None), ("BadPlan", "exits"))
        self.assertEqual(EXAMPLE.exits, ("c",))

    def test_alone(self):
        plan = Plan.alone(GATE)
        self.assertEqual(plan, Plan(Catalogue(2, (GATE,)), ("x", "y"), (("p", ("gate",), ("x", "y"), 1),), ("p",)))
        self.assertEqual(Plan.alone(CELL).entries, ("x",))
        self.assertEqual(Plan.alone(Kind(3, "p", 0, (0,))).places, (("p", ("p",), (), 1),))

    def test_edges_are_good(self):
        self.assertIsNone(plan_error(("p",), (), ("p",)))
        self.assertIsNone(plan_error((), (("k", ("cell",), ("k",), 60),), ("k",)))
        self.assertIsNone(plan_error(("a", "b"), (("g", ("gate", "join"), ("a", "a"), 1),), ("a", "g")))
        self.assertIsNone(plan_error(("a",), turns("a", "p", "q", "r", "s", "t"), ("u",)))
        self.assertEqual(STILL.entries, ())
        self.assertEqual(TURNED.exits, ("j", "b"))


class PlanErrorsTest(unittest.TestCase):
    def test_bad_entries(self):
        for entries in (None, "ab", ("a", "b", "c"), ("A",), ("place",), (1,), (["a"],), {"a": 1}):
            self.assertEqual(plan_error(entries, None, None), ("BadPlan", "entries"), entries)

    def test_bad_places(self):
        for places in (None, "g", 3, {}):
            self.assertEqual(plan_error(ENTRIES, places, None), ("BadPlan", "places"), places)

    def test_bad_place(self):
        good = PLACES[0]
        for place in (None, "g", good[:3], (*good, 1), ("G", *good[1:]), (3, *good[1:]), ("g", (), *good[2:]),
                      ("g", "gate", *good[2:]), ("g", ("gate", "gate"), *good[2:]), ("g", ("Gate",), *good[2:]),
                      ("g", ("a", "b", "c", "d"), *good[2:]), (*good[:2], "in", 3), (*good[:2], ("a", "b", "c"), 3),
                      (*good[:2], ("A",), 3), (*good[:2], None, 3), (*good[:3], 0), (*good[:3], 61), (*good[:3], True),
                      (*good[:3], "3"), (*good[:3], None), ("g", [["gate"]], *good[2:])):
            self.assertEqual(plan_error(ENTRIES, (good, place, None), ()), ("BadPlace", 1), place)
        # In itself only: unknown kinds and lines are no matter of the form.
        self.assertEqual(plan_error(ENTRIES, (("in", ("no", "nor", "not"), ("a", "a"), 60), None)), ("BadPlace", 1))

    def test_bad_exits(self):
        for exits in (None, (), "c", ("c", "c"), ("a", "b", "c"), ("C",), (1,), (["c"],)):
            self.assertEqual(plan_error(ENTRIES, PLACES * 9, exits), ("BadPlan", "exits"), exits)

    def test_too_many_places(self):
        self.assertEqual(plan_error(("a", "a"), turns("no") * 7, ("no",)), ("TooMany", "place"))
        seven = turns("a", "a", "a", "a", "a", "a", "a")
        self.assertEqual(plan_error(("a",), seven, ("p",)), ("TooMany", "place"))
        self.assertIsNone(plan_error(("a",), seven[:6], ("p",)))

    def test_twice(self):
        self.assertEqual(plan_error(("a", "a"), turns("no"), ("no",)), ("Twice", "a"))
        self.assertEqual(plan_error(("a", "q"), turns("no", "no"), ("no",)), ("Twice", "q"))
        self.assertEqual(plan_error(("a",), (*turns("no", "no"), *turns("no")), ("no",)), ("Twice", "p"))

    def test_unknown(self):
        self.assertEqual(plan_error(("a",), (("p", ("turn", "none", "no"), ("never",), 1),), ("no",)), ("Unknown", "none"))
        self.assertEqual(plan_error(("a",), (("p", ("turn",), ("a", "never"), 1), ("q", ("none",), ("a",), 1)), ("no",)),
                         ("Unknown", "never"))
        self.assertEqual(plan_error(("a",), (("p", ("gate",), ("a",), 1),), ("p", "no")), ("Unknown", "no"))
        self.assertEqual(plan_error((), (), ("no",)), ("Unknown", "no"))
        # The name of a kind is no line.
        self.assertEqual(plan_error(ENTRIES, PLACES, ("gate",)), ("Unknown", "gate"))

    def test_unfit(self):
        self.assertEqual(plan_error(("a",), (("q", ("turn", "cell"), ("a",), 1), ("p", ("gate",), ("a",), 1)), ("a",)),
                         ("Unfit", "q"))
        self.assertEqual(plan_error(("a",), (("p", ("gate", "turn"), ("a", "a"), 1),), ("a",)), ("Unfit", "p"))
        self.assertEqual(plan_error(("a",), (*turns("p"), ("q", ("gate",), ("a",), 1)), ("a",)), ("Unfit", "q"))
        four = tuple((name, ("cell",), (name,), 1) for name in "klmn")
        self.assertEqual(plan_error(("a",), (*four, ("q", ("cell",), (), 1)), ("a",)), ("Unfit", "q"))

    def test_too_many_that_keep(self):
        four = tuple((name, ("cell", "cold"), (name,), 1) for name in "klmn")
        self.assertEqual(plan_error(("a",), (*four, *turns("p")), ("a",)), ("TooMany", "keep"))
        self.assertIsNone(plan_error(("a",), four[:3], ("a",)))

    def test_ring(self):
        self.assertEqual(plan_error(("a",), turns("p"), ("a",)), ("Ring", "p"))
        # p only leads into the ring of q and r.
        self.assertEqual(plan_error(("a",), turns("q", "r", "q"), ("a",)), ("Ring", "q"))
        self.assertEqual(plan_error(("a",), turns("r", "a", "q", "t", "s"), ("a",)), ("Ring", "s"))
        self.assertIsNone(plan_error(("a",), turns("q", "r", "a"), ("a",)))
        # Through a place that keeps a ring is good.
        self.assertIsNone(plan_error(("a",), (*turns("k"), ("k", ("cell",), ("p",), 1)), ("a",)))
