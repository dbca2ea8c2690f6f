import unittest

from tests import naive
from tests.raising import error_of
from tests.samples import CATALOGUE, EMPTY, EXAMPLE, STILL, TURNED, many_fillings, ring_of
from tinkerhall.acting import Acting, acts
from tinkerhall.kinds import Kind
from tinkerhall.plans import Plan


class ActingTest(unittest.TestCase):
    def test_the_own_filling_acts(self):
        acting = Acting(TURNED, TURNED.own)
        self.assertIs(bool(acting), True)
        self.assertEqual((acting.row, acting.comings), (None, None))
        self.assertEqual(acting.table, (((0,), (0,)), ((1,), (1,))))
        self.assertEqual((len(acting), list(acting)), (2, list(acting.table)))

    def test_a_broken_one_can_act(self):
        # The gate never gives 1 in the example: what makes it low is not seen.
        acting = Acting(EXAMPLE, [["gate", 1], ["cell", 0]])
        self.assertTrue(acting)
        self.assertEqual(acting.table, (((0,), (0,)),))

    def test_a_whole_stand_in_need_not(self):
        acting = Acting(EXAMPLE, (("join", 0), ("cell", 0)))
        self.assertIs(bool(acting), False)
        self.assertEqual((acting.row, acting.comings, acting.table), (((1,), (0,)), ((0, 0), (0, 0)), None))
        self.assertEqual((len(acting), list(acting)), (0, []))
        self.assertEqual(Acting(EXAMPLE, (("gate", 0), ("cold", 0))).row, ((0,),))

    def test_the_first_comings_of_the_least_row(self):
        acting = Acting(EXAMPLE, (("gate", 2), ("cell", 0)))
        self.assertEqual((acting.row, acting.comings), (((0,), (0,)), ((1, 0), (0, 0))))
        self.assertEqual(Acting(STILL, (("fixed", 1),)).comings, ((1,),))

    def test_the_row_is_least_ahead_of_its_comings(self):
        # What breaks s is seen behind the first step, where k or a is 1. Without a coming k is 0, and the row is greater.
        later = Kind(2, "later", 0, (1, 1), start=0)
        shown = Kind(2, "shown", 2, (0, 0, 0, 0), ways=(("stands", "broken", (0, 0, 0, 1)),))
        plan = Plan(CATALOGUE + later + shown, ("a",), (
            ("g", ("gate",), ("a", "a"), 1), ("k", ("cell",), ("g",), 1), ("m", ("later",), (), 1),
            ("j", ("join",), ("k", "a"), 1), ("s", ("shown",), ("m", "j"), 1)), ("s",))
        filling = (("gate", 2), ("cell", 0), ("later", 0), ("join", 0), ("shown", 1))
        acting = Acting(plan, filling)
        self.assertEqual((acting.row, acting.comings), (((0,), (0,)), ((1, 0, 0, 0, 0), (0, 0, 0, 0, 0))))
        self.assertEqual((acting.row, acting.comings), naive.first_difference(plan, filling, 2))

    def test_no_place(self):
        acting = Acting(EMPTY, ())
        self.assertEqual((bool(acting), acting.table), (True, (((), ()),)))
        self.assertIs(acts(EMPTY, ()), True)

    def test_without_entries(self):
        acting = Acting(ring_of(3), (("cell", 0), ("cold", 0), ("cell", 0)))
        self.assertEqual((acting.row, acting.comings), (((), ()), ((0, 0, 0), (0, 0, 0))))

    def test_as_told_for_many_plans(self):
        told = {True: 0, False: 0}
        longer = 0
        for plan, filling in many_fillings(31, 500, broken=3):
            acting = Acting(plan, filling)
            told[bool(acting)] += 1
            self.assertIs(acts(plan, filling), bool(acting))
            if acting:
                self.assertEqual(acting.table, naive.pair_table(plan, filling))
                self.assertEqual(list(acting), list(acting.table))
                continue
            choices = len(naive.all_inputs(plan)) * len(naive.all_comings(plan, filling))
            if choices ** len(acting.row) < 3000:
                longer += len(acting.row) > 1 and len(naive.all_comings(plan, filling)) > 1
                self.assertEqual((acting.row, acting.comings), naive.first_difference(plan, filling, len(acting.row)))
        self.assertGreater(min(told.values()), 100)
        self.assertGreater(longer, 15)

    def test_six_places_with_six_that_flee(self):
        places = [("k" + "abc"[at], ("cell",), ("in",), 1) for at in range(3)]
        places += [("g" + "abc"[at], ("gate",), ("k" + "abc"[at], "in"), 1) for at in range(3)]
        plan = Plan(CATALOGUE, ("in",), places, ("in",))
        acting = Acting(plan, (("cell", 2),) * 3 + (("gate", 2),) * 3)
        self.assertTrue(acting)
        self.assertEqual(acting.table, naive.pair_table(plan, (("cell", 2),) * 3 + (("gate", 2),) * 3))

    def test_bad_filling(self):
        for call in (Acting, acts):
            self.assertEqual(error_of(call, EXAMPLE, (("gate", 0),)), ("BadFilling", -1))
            self.assertEqual(error_of(call, EXAMPLE, (("gate", 4), ("cell", 3))), ("BadFilling", 0))
            self.assertEqual(error_of(call, EXAMPLE, (("gate", 0), ("cell", True))), ("BadFilling", 1))
