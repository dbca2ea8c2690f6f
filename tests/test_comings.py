import random
import unittest

from tests import naive
from tests.raising import error_of
from tests.samples import CATALOGUE, EMPTY, EXAMPLE, STILL, any_row, many_fillings
from tinkerhall.comings import explained
from tinkerhall.kinds import Kind
from tinkerhall.plans import Plan

HIGH = (("gate", 2), ("cell", 2))


class ExplainedTest(unittest.TestCase):
    def test_the_fewest_and_of_these_the_first(self):
        row = ((0,), (0,), (0,))
        self.assertEqual(explained(EXAMPLE, HIGH, row, ((2, "c", 0),)), ((0, 0),) * 3)
        self.assertEqual(explained(EXAMPLE, [["gate", 2], ["cell", 2]], [[0], [0], [0]], [[2, "c", 1]]),
                         ((0, 0), (1, 0), (0, 0)))
        self.assertEqual(explained(EXAMPLE, HIGH, row, ((2, "g", 1), (1, "c", 1))), ((1, 0), (0, 0), (1, 0)))
        # The gate shows 1 and the cell is to show 0 behind it: the cell drops.
        self.assertEqual(explained(EXAMPLE, HIGH, row, ((1, "c", 0), (0, "g", 1))), ((1, 1), (0, 0), (0, 0)))

    def test_fewer_ahead_of_the_first(self):
        # Both p and q give a later 1 by two comings; the gate of r does it alone, with a greater coming.
        plan = Plan(CATALOGUE, ("in",), (("r", ("gate",), ("in", "in"), 1), ("p", ("gate",), ("in", "in"), 1),
                                         ("q", ("gate",), ("in", "in"), 1), ("g", ("gate",), ("p", "q"), 1),
                                         ("j", ("join",), ("g", "r"), 1)), ("j",))
        filling = (("gate", 2), ("gate", 2), ("gate", 2), ("gate", 0), ("join", 0))
        self.assertEqual(explained(plan, filling, ((0,),), ((0, "j", 1),)), ((1, 0, 0, 0, 0),))

    def test_a_coming_now_for_several_later(self):
        # The latch stays at 1 once the gate has come; the other gate must come at each step.
        latch = Kind(2, "latch", 1, (0, 1, 1, 1), start=0, ways=(("flees", "lost", (0, 0, 0, 0)),))
        plan = Plan(CATALOGUE + latch, ("in",), (
            ("a", ("gate",), ("in", "in"), 1), ("k", ("latch",), ("a",), 1), ("b", ("gate",), ("in", "in"), 1),
            ("j", ("join",), ("k", "b"), 1)), ("j",))
        filling = (("gate", 2), ("latch", 1), ("gate", 2), ("join", 0))
        row = ((0,),) * 4
        none, first = (0, 0, 0, 0), (1, 0, 0, 0)
        self.assertEqual(explained(plan, filling, row, ((1, "j", 1), (2, "j", 1), (3, "j", 1))), (first, none, none, none))
        for sights in (((1, "j", 1), (2, "j", 1)), ((0, "j", 1), (1, "j", 1)), ((0, "j", 1), (1, "j", 1), (2, "j", 1)),
                       tuple((at, "j", 1) for at in range(4)), ((2, "j", 1), (3, "j", 0))):
            self.assertEqual(explained(plan, filling, row, sights), naive.fewest_comings(plan, filling, row, sights))

    def test_none(self):
        self.assertIsNone(explained(EXAMPLE, HIGH, ((0,),), ((0, "c", 1),)))
        self.assertIsNone(explained(EXAMPLE, EXAMPLE.own, ((0,), (1,)), ((0, "g", 0), (1, "g", 1))))
        self.assertIsNone(explained(EMPTY, (), ((0,),), ((0, "in", 1),)))
        self.assertEqual(explained(EMPTY, (), ((0,),), ((0, "in", 0),)), ((),))
        self.assertEqual(explained(STILL, (("fixed", 1),), ((), ()), ((1, "s", 0),)), ((0,), (1,)))

    def test_a_long_row(self):
        found = explained(EXAMPLE, HIGH, ((1,),) * 60, ((59, "c", 1), (30, "c", 1), (20, "g", 0)))
        # Of the steps from 21 to 29 the last one gives the first row.
        self.assertEqual([at for at, coming in enumerate(found) if coming != (0, 0)], [29])
        self.assertEqual(found[29], (1, 0))

    def test_as_told_for_many_plans(self):
        chance = random.Random(62)
        told = {True: 0, False: 0}
        for plan, filling in many_fillings(63, 800, broken=4):
            row = any_row(chance, plan, 4)
            if not 1 < len(naive.all_comings(plan, filling)) ** len(row) < 600:
                continue
            spots = [(at, line) for at in range(len(row)) for line in plan.lines]
            sights = tuple((*spot, chance.randrange(plan.catalogue.signs))
                           for spot in chance.sample(spots, min(len(spots), chance.choice((1, 1, 2, 3, 6)))))
            found = explained(plan, filling, row, sights)
            self.assertEqual(found, naive.fewest_comings(plan, filling, row, sights))
            told[found is None] += found is None or sum(map(sum, found)) > 0
        self.assertGreater(min(told.values()), 15)

    def test_errors_in_their_order(self):
        self.assertEqual(error_of(explained, EXAMPLE, (("gate", 9), ("cell", 0)), None, None), ("BadFilling", 0))
        self.assertEqual(error_of(explained, EXAMPLE, HIGH, ((True,),), None), ("BadRow", 0))
        self.assertEqual(error_of(explained, EXAMPLE, HIGH, ((0,),) * 61, None), ("BadRow", -1))
        sights = tuple((at, "c", 0) for at in range(7))
        self.assertEqual(error_of(explained, EXAMPLE, HIGH, ((0,),) * 9, sights), ("BadSights", -1))
        self.assertIsNone(error_of(explained, EXAMPLE, HIGH, ((0,),) * 9, sights[:6]))
        self.assertEqual(error_of(explained, EXAMPLE, HIGH, ((0,),), ()), ("BadSights", -1))
        for sight in (None, (1, "c", 0), (0, "odd", 0), (0, "c", 2), (0, "c", True), (False, "c", 0), (0, "g", 1)):
            self.assertEqual(error_of(explained, EXAMPLE, HIGH, ((0,),), ((0, "g", 0), sight)), ("BadSights", 1), sight)
