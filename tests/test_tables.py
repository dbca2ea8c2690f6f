import random
import unittest

from tests import naive
from tests.samples import CELL, COLD, GATE, TURN, any_kind
from tinkerhall.kinds import Kind
from tinkerhall.plans import Plan
from tinkerhall.tables import can_give, needless


def given(kind, condition, steps):
    """The signs that a part alone shows within so many steps."""
    plan = Plan.alone(kind)
    filling = ((kind.name, condition),)
    standings, found = {naive.beginning(plan, filling)}, set()
    for _ in range(steps):
        moves = [naive.step(plan, filling, standing, inputs, coming) for standing in standings
                 for inputs in naive.all_inputs(plan) for coming in naive.all_comings(plan, filling)]
        found |= {shown[-1] for shown, _ in moves}
        standings = {behind for _, behind in moves}
    return tuple(sorted(found))


class NeedlessTest(unittest.TestCase):
    def test_plain_ones(self):
        self.assertEqual((needless(GATE), needless(CELL), needless(TURN)), ((), (), ()))
        self.assertEqual(needless(Kind(2, "a", 2, (0, 0, 1, 1))), (1,))
        self.assertEqual(needless(Kind(2, "a", 2, (0, 1, 0, 1))), (0,))
        self.assertEqual(needless(Kind(2, "a", 2, (1, 1, 1, 1))), (0, 1))
        self.assertEqual(needless(Kind(2, "a", 2, (0, 1, 1, 0))), ())
        self.assertEqual(needless(Kind(2, "a", 0, (1,))), ())
        self.assertEqual(needless(Kind(2, "a", 1, (0, 0))), (0,))

    def test_whichever_kept_sign(self):
        self.assertEqual(needless(Kind(2, "a", 1, (0, 0, 1, 1), start=0)), (0,))
        self.assertEqual(needless(Kind(2, "a", 1, (0, 0, 1, 0), start=0)), ())
        # The kept sign that makes the difference need never be kept.
        self.assertEqual(needless(Kind(3, "a", 1, (0, 0, 0, 0, 0, 0, 0, 0, 1), start=0)), ())

    def test_three_signs(self):
        self.assertEqual(needless(Kind(3, "a", 2, (0, 0, 0, 0, 0, 0, 0, 0, 1))), ())
        self.assertEqual(needless(Kind(3, "a", 2, (0, 0, 2) * 3)), (0,))
        self.assertEqual(needless(Kind(3, "a", 2, (0, 0, 0, 0, 0, 0, 2, 2, 2))), (1,))

    def test_ways_do_not_count(self):
        self.assertEqual(needless(Kind(2, "a", 1, (0, 0), ways=(("stands", "b", (0, 1)),))), (0,))


class CanGiveTest(unittest.TestCase):
    def test_what_does_not_keep(self):
        self.assertEqual([can_give(GATE), can_give(GATE, 1), can_give(GATE, 2), can_give(GATE, 3)],
                         [(0, 1), (0,), (0, 1), (0, 1)])
        fixed = Kind(3, "fixed", 0, (2,), ways=(("flees", "gone", (0,)), ("stands", "low", (1,))))
        self.assertEqual([can_give(fixed, condition) for condition in range(3)], [(2,), (0, 2), (1,)])

    def test_what_keeps_gives_what_it_can_come_to_keep(self):
        self.assertEqual((can_give(CELL), can_give(COLD), can_give(CELL, 2)), ((0, 1), (0, 1), (0, 1)))
        self.assertEqual(can_give(CELL, 1), (0,))
        steps = Kind(3, "steps", 1, (0, 1, 0, 1, 2, 1, 2, 2, 2), start=0, ways=(
            ("stands", "slow", (0, 1, 0, 1, 1, 1, 2, 2, 2)), ("flees", "flat", (0,) * 9)))
        self.assertEqual([can_give(steps, condition) for condition in range(3)], [(0, 1, 2), (0, 1), (0, 1, 2)])
        # Only coming and going in turn leads from 0 over 1 to 2.
        turns = Kind(3, "turns", 0, (1, 1, 0), start=0, ways=(("flees", "on", (0, 2, 2)),))
        self.assertEqual([can_give(turns), can_give(turns, 1)], [(0, 1), (0, 1, 2)])

    def test_as_told_for_many_kinds(self):
        chance = random.Random(8)
        for _ in range(60):
            kind = any_kind(chance, chance.choice((2, 3)), "k", chance.randrange(3), chance.random() < 0.6, 2)
            for condition in range(3):
                self.assertEqual(can_give(kind, condition), given(kind, condition, 4))
