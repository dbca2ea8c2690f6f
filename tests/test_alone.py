import itertools
import random
import unittest

from tests import naive
from tests.raising import error_of
from tests.samples import CELL, COLD, GATE, JOIN, TURN, any_kind, any_plan, any_row
from tinkerhall.alone import alike_alone, hidden_ways
from tinkerhall.kinds import Catalogue, Kind
from tinkerhall.machines import run
from tinkerhall.plans import Plan


def least_parting(first, second, most):
    """The least row of at most so many steps behind which two kinds give different signs."""
    plans = [Plan.alone(kind) for kind in (first, second)]
    for many in range(1, most + 1):
        for row in itertools.product(naive.all_inputs(plans[0]), repeat=many):
            shown = [naive.run(plan, plan.own, row, ())[-1][-1] for plan in plans]
            if shown[0] != shown[1]:
                return row
    return None


class AlikeAloneTest(unittest.TestCase):
    def test_plain_ones(self):
        self.assertIsNone(alike_alone(GATE, GATE))
        self.assertEqual(alike_alone(GATE, JOIN), ((0, 1),))
        self.assertEqual(alike_alone(CELL, COLD), ((0,),))
        self.assertEqual(alike_alone(CELL, Kind(2, "flip", 1, (1, 0, 1, 0), start=0)), ((0,), (0,)))
        self.assertEqual(alike_alone(CELL, Kind(2, "keep", 1, (0, 0, 0, 1), start=0)), ((1,), (0,)))
        self.assertEqual(alike_alone(Kind(2, "a", 0, (0,)), Kind(2, "b", 0, (0, 1), start=1)), ((),))

    def test_names_prices_and_ways_do_not_count(self):
        self.assertIsNone(alike_alone(CELL, Kind(2, "other", 1, (0, 1, 0, 1), start=0, price=7)))

    def test_one_keeps_and_the_other_does_not(self):
        self.assertIsNone(alike_alone(Kind(2, "low", 1, (0, 0)), Kind(2, "dull", 1, (0, 0, 0, 1), start=0)))
        self.assertEqual(alike_alone(TURN, CELL), ((0,),))
        self.assertEqual(alike_alone(Kind(2, "low", 1, (0, 0)), CELL), ((1,), (0,)))

    def test_kept_signs_that_are_never_kept(self):
        self.assertIsNone(alike_alone(Kind(3, "a", 0, (1, 0, 2), start=0), Kind(3, "b", 0, (1, 0, 0), start=0)))

    def test_as_told_for_many_kinds(self):
        chance = random.Random(9)
        longer = 0
        for _ in range(400):
            signs, inputs = chance.choice((2, 3)), chance.randrange(2)
            first = any_kind(chance, signs, "a", inputs, True, 0)
            table = list(first.table)
            table[chance.randrange(len(table))] = chance.randrange(signs)
            second = Kind(signs, "b", inputs, table, start=first.start)
            row = alike_alone(first, second)
            longer += row is not None and len(row) > 2
            self.assertEqual(row, least_parting(first, second, 5))
        self.assertGreater(longer, 20)

    def test_alike_ones_can_be_put_in_each_others_place(self):
        chance = random.Random(10)
        first = Kind(2, "a", 2, (0, 0, 1, 1, 0, 0, 0, 0), start=0)
        second = Kind(2, "b", 2, (0, 0, 1, 1, 0, 0, 0, 0), start=0)
        low = Kind(2, "c", 2, (0, 0, 0, 0))
        dull = Kind(2, "d", 2, (0, 0, 0, 0, 1, 1, 1, 1), start=0)
        self.assertIsNone(alike_alone(first, second))
        self.assertIsNone(alike_alone(low, dull))
        catalogue = Catalogue(2, (first, second, low, dull, GATE, CELL))
        for _ in range(60):
            plan = any_plan(chance, catalogue, 2, 4)
            other = {"a": "b", "b": "a", "d": "c"}
            places = [(name, (other.get(kinds[0], kinds[0]),), sources, 1) for name, kinds, sources, _ in plan.places]
            if error_of(plan.changed, places=places) is None:
                changed = plan.changed(places=places)
                row = any_row(chance, plan, 10)
                self.assertEqual(run(plan, plan.own, row), run(changed, changed.own, row))

    def test_unlike(self):
        three = Kind(3, "three", 0, (0,))
        self.assertEqual(error_of(alike_alone, GATE, three), ("Unlike", "signs"))
        self.assertEqual(error_of(alike_alone, GATE, TURN), ("Unlike", "inputs"))
        self.assertEqual(error_of(alike_alone, CELL, GATE), ("Unlike", "inputs"))


class HiddenWaysTest(unittest.TestCase):
    def test_what_does_not_keep_hides_nothing(self):
        self.assertEqual((hidden_ways(GATE), hidden_ways(TURN), hidden_ways(Kind(2, "a", 0, (0,)))), ((), (), ()))

    def test_entries_that_are_never_asked(self):
        kind = Kind(2, "a", 1, (0, 0, 0, 0), start=0, ways=(
            ("stands", "b", (0, 0, 0, 1)), ("flees", "c", (0, 0, 1, 0)), ("flees", "d", (0, 1, 0, 0)),
            ("stands", "e", (1, 0, 0, 0)), ("stands", "f", (0, 0, 1, 1)), ("flees", "g", (0, 0, 1, 1))))
        self.assertEqual(hidden_ways(kind), (1, 2, 5, 6))
        self.assertEqual(hidden_ways(CELL), ())

    def test_as_told_for_many_kinds(self):
        chance = random.Random(14)
        hidden = 0
        for _ in range(150):
            kind = any_kind(chance, 3, "k", 1, True, 3)
            plan = Plan.alone(kind)
            told = tuple(way for way in (1, 2, 3) if naive.first_difference(plan, (("k", way),), 4) is None)
            hidden += len(told)
            self.assertEqual(hidden_ways(kind), told)
        self.assertGreater(hidden, 10)
