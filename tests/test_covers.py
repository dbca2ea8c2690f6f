import random
import unittest

from tests import naive
from tests.raising import error_of
from tests.samples import EMPTY, EXAMPLE, STILL, TURNED, any_filling, any_row, many_fillings, ring_of
from tinkerhall.covers import Behaviour, Covering, Parting
from tinkerhall.kinds import Catalogue, Kind
from tinkerhall.plans import Plan
from tinkerhall.showings import showings

OWN = EXAMPLE.own
HIGH = (("gate", 2), ("cell", 0))
JOINED = (("join", 0), ("cell", 0))


def keeping_at_most(most, seed, many):
    """Plans with fillings, of which few places keep, and few parts come and go."""
    return [(plan, filling) for plan, filling in many_fillings(seed, many, places=(1, 2, 3), broken=2)
            if len(plan.keeping) <= most and len(plan.entries) * plan.catalogue.signs < 6]


class BehaviourTest(unittest.TestCase):
    def test_attributes_and_equal(self):
        behaviour = Behaviour(EXAMPLE, [["gate", 2], ["cell", 0]])
        self.assertIs(behaviour.plan, EXAMPLE)
        self.assertEqual((behaviour.filling, behaviour.watched), (HIGH, ("c",)))
        self.assertEqual(Behaviour(EXAMPLE, HIGH, lines=["g", "g"]).watched, ("g", "g"))
        self.assertEqual(behaviour, Behaviour(EXAMPLE.changed(), HIGH, lines=("c",)))
        self.assertNotEqual(behaviour, Behaviour(EXAMPLE, HIGH, lines=("g",)))
        self.assertNotEqual(behaviour, Behaviour(EXAMPLE, OWN))
        self.assertNotEqual(behaviour, Behaviour(EXAMPLE.changed(exits=("g",)), HIGH, lines=("c",)))
        self.assertFalse(behaviour == EXAMPLE)

    def test_contains(self):
        behaviour = Behaviour(EXAMPLE, HIGH)
        row = ((0,), (0,))
        self.assertIn((row, ((0,), (1,))), behaviour)
        self.assertIn([[[0], [0]], [[0], [0]]], behaviour)
        self.assertIs((row, ((1,), (0,))) in behaviour, False)
        self.assertNotIn((row, ((0,), (1,))), Behaviour(EXAMPLE, OWN))
        self.assertIn((((0,),) * 60, ((0,),) * 60), behaviour)
        self.assertNotIn((((0,),) * 61, ((0,),) * 61), behaviour)
        self.assertIn((((0,),), ((0, 1),)), Behaviour(EXAMPLE, HIGH, lines=("c", "g")))
        self.assertIn((((1,),), ((1,),)), Behaviour(EMPTY, ()))
        self.assertIn((((),), ((0,),)), Behaviour(STILL, (("fixed", 1),)))

    def test_what_is_no_pair_of_a_row_and_a_showing(self):
        behaviour = Behaviour(EXAMPLE, HIGH)
        good = ((0,), (0,))
        for thing in (None, 7, "ab", (), (good,), (good, good, good), (good, ((0,),)), (good, ((0,), (0,), (0,))),
                      (good, ((0,), (2,))), (good, ((0,), (False,))), (((0,), (False,)), good), (((0,), (2,)), good),
                      (((0, 0), (0, 0)), good), ((), ()), (good, None), (None, good), (good, "ab"), ("ab", good),
                      (good, ((0,), ())), (good, ((0,), None)), (good, {}), (good, ((0, 0), (0, 0))), {}):
            self.assertIs(thing in behaviour, False, thing)

    def test_as_the_showings_of_many(self):
        chance = random.Random(71)
        for plan, filling in many_fillings(72, 120, broken=3):
            row = any_row(chance, plan, 3)
            if len(naive.all_comings(plan, filling)) ** len(row) > 300:
                continue
            behaviour = Behaviour(plan, filling)
            told = showings(plan, filling, row)
            for showing in told:
                self.assertIn((row, showing), behaviour)
                changed = ((*showing[-1][:-1], (showing[-1][-1] + 1) % plan.catalogue.signs),)
                self.assertIs((row, showing[:-1] + changed) in behaviour, showing[:-1] + changed in told)

    def test_errors(self):
        self.assertEqual(error_of(Behaviour, EXAMPLE, (OWN[0],), lines=("odd",)), ("BadFilling", -1))
        self.assertEqual(error_of(Behaviour, EXAMPLE, (OWN[0], ("cell", True)), lines=("odd",)), ("BadFilling", 1))
        self.assertEqual(error_of(Behaviour, EXAMPLE, OWN, lines=("c", "odd", "")), ("Unknown", "odd"))


class CoversTest(unittest.TestCase):
    def test_covers(self):
        high, own = Behaviour(EXAMPLE, HIGH), Behaviour(EXAMPLE, OWN)
        covering = high.covers(own)
        self.assertIsInstance(covering, Covering)
        self.assertEqual((bool(covering), covering.row, covering.showing), (True, None, None))
        covering = own.covers(high)
        self.assertEqual((bool(covering), covering.row, covering.showing), (False, ((0,), (0,)), ((0,), (1,))))
        self.assertTrue(Behaviour(EMPTY, ()).covers(Behaviour(EMPTY, ())))
        still = Behaviour(STILL, STILL.own).covers(Behaviour(STILL, (("fixed", 1),)))
        self.assertEqual((still.row, still.showing), (((),), ((0,),)))

    def test_as_told_for_many_plans(self):
        chance = random.Random(73)
        told = {True: 0, False: 0}
        deep = 0
        for plan, filling in keeping_at_most(2, 74, 700):
            other = any_filling(chance, plan, 2)
            covering = Behaviour(plan, filling).covers(Behaviour(plan, other))
            told[bool(covering)] += filling != other
            most = 3 if covering else len(covering.row)
            if (len(naive.all_inputs(plan)) ** most) * len(naive.all_comings(plan, other)) < 1500:
                found = None if covering else (covering.row, covering.showing)
                self.assertEqual(found, naive.first_uncovered(plan, filling, other, plan.exits, most))
                deep += not covering and most > 1
        self.assertGreater(min(told.values()), 50)
        self.assertGreater(deep, 30)

    def test_the_first_showing_where_the_same_showing_leads_to_several_standings(self):
        # What k keeps is not seen at once: the same showing leads to both of its signs.
        slow = Kind(2, "slow", 1, (0, 1, 0, 1), start=0, ways=(("flees", "lost", (0, 0, 0, 0)), ("stands", "set", (1, 1, 1, 1))))
        plan = Plan(Catalogue(2, (slow,)), ("a",), (("k", ("slow",), ("a",), 1), ("m", ("slow",), ("k",), 1)), ("m",))
        for one in range(3):
            for two in range(3):
                for three in range(3):
                    first, second = (("slow", one), ("slow", two)), (("slow", two), ("slow", three))
                    covering = Behaviour(plan, first).covers(Behaviour(plan, second))
                    found = None if covering else (covering.row, covering.showing)
                    self.assertEqual(found, naive.first_uncovered(plan, first, second, ("m",), 5))

    def test_rows_longer_than_those_that_are_passed(self):
        # Six signs in two cells count up to nine steps; the row of the ring is told whatever its length.
        step = Kind(3, "tick", 1, tuple((kept + sign) % 3 for kept in range(3) for sign in range(3)), start=0)
        one = Kind(3, "one", 0, (1,))
        last = Kind(3, "both", 2, tuple(int(left == 2 and right == 2) for left in range(3) for right in range(3)),
                    ways=(("stands", "never", (0,) * 9),))
        carry = Kind(3, "carry", 1, (0, 0, 1))
        plan = Plan(Catalogue(3, (step, one, last, carry)), (), (
            ("o", ("one",), (), 1), ("k", ("tick",), ("o",), 1), ("c", ("carry",), ("k",), 1), ("m", ("tick",), ("c",), 1),
            ("b", ("both",), ("k", "m"), 1)), ("b",))
        broken = tuple((name, 1 if name == "both" else 0) for name, _ in plan.own)
        covering = Behaviour(plan, broken).covers(Behaviour(plan, plan.own))
        self.assertEqual((covering.row, covering.showing), (((),) * 9, ((0,),) * 8 + ((1,),)))

    def test_errors_in_their_order(self):
        self.assertTrue(Behaviour(ring_of(2), ring_of(2).own).covers(Behaviour(ring_of(2), ring_of(2).own)))
        wide = Behaviour(ring_of(3), ring_of(3).own)
        self.assertEqual(error_of(wide.covers, Behaviour(EXAMPLE, OWN)), ("TooMany", "keep"))
        here = Behaviour(EXAMPLE, OWN)
        self.assertEqual(error_of(here.covers, wide), ("Unlike", "plans"))
        self.assertEqual(error_of(here.covers, Behaviour(EXAMPLE.changed(exits=("g",)), OWN)), ("Unlike", "plans"))
        self.assertEqual(error_of(here.covers, Behaviour(EXAMPLE, OWN, lines=("c", "c"))), ("Unlike", "lines"))
        self.assertIsNone(error_of(here.covers, Behaviour(EXAMPLE.changed(), OWN, lines=("c",))))


class PartingTest(unittest.TestCase):
    def test_a_table(self):
        parting = Parting(Behaviour(EXAMPLE, OWN), Behaviour(EXAMPLE, HIGH))
        self.assertEqual((bool(parting), parting.row), (False, None))
        self.assertEqual(parting.table, ((((0,), (0,)),), (((0,), (0,)), ((0,), (1,)))))
        self.assertEqual((len(parting), list(parting)), (2, list(parting.table)))

    def test_a_row(self):
        parting = Parting(Behaviour(EXAMPLE, OWN), Behaviour(EXAMPLE, JOINED))
        self.assertEqual((bool(parting), parting.row, parting.table), (True, ((1,), (0,)), None))
        self.assertEqual((len(parting), list(parting)), (0, []))

    def test_as_told_for_many_plans(self):
        chance = random.Random(75)
        told = {True: 0, False: 0}
        several = 0
        for plan, filling in keeping_at_most(1, 76, 900):
            other = any_filling(chance, plan, 2)
            parting = Parting(Behaviour(plan, filling), Behaviour(plan, other))
            told[bool(parting)] += filling != other
            if parting:
                self.assertEqual(parting.row, naive.first_sure_parting(plan, filling, other, plan.exits, len(parting.row)))
            else:
                self.assertEqual(parting.table, self.table_of(plan, filling, other))
                several += len(parting) > 2
        self.assertGreater(min(told.values()), 50)
        self.assertGreater(several, 20)

    def table_of(self, plan, filling, other):
        found = {naive.shared_pairs(plan, filling, other, (), plan.exits): ()}
        rows = list(found.items())
        for _, row in rows:
            for inputs in naive.all_inputs(plan):
                lot = naive.shared_pairs(plan, filling, other, (*row, inputs), plan.exits)
                if lot not in found:
                    found[lot] = (*row, inputs)
                    rows.append((lot, found[lot]))
        return tuple(found)

    def test_errors_in_their_order(self):
        here = Behaviour(EXAMPLE, OWN)
        two = Behaviour(TURNED, TURNED.own)
        self.assertEqual(error_of(Parting, here, two), ("Unlike", "plans"))
        wide = Behaviour(ring_of(2), ring_of(2).own)
        self.assertEqual(error_of(Parting, wide, here), ("Unlike", "plans"))
        self.assertEqual(error_of(Parting, wide, Behaviour(ring_of(2), ring_of(2).own, lines=("k",))), ("Unlike", "lines"))
        self.assertEqual(error_of(Parting, wide, wide), ("TooMany", "keep"))
        self.assertIsNone(error_of(Parting, here, here))
        self.assertEqual(error_of(Parting, here, Behaviour(EXAMPLE, OWN, lines=("g",))), ("Unlike", "lines"))
