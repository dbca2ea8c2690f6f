import random
import unittest

from tests import naive
from tests.raising import error_of
from tests.samples import CATALOGUE, EMPTY, EXAMPLE, FIXED, STILL, TURNED, any_filling, many_fillings, ring_of
from tinkerhall.alike import Alike, classes, judge_pairs
from tinkerhall.kinds import Catalogue, Kind
from tinkerhall.plans import Plan
from tinkerhall.standings import least_table

OWN = EXAMPLE.own
JOINED = (("join", 0), ("cell", 0))
LOW = (("gate", 1), ("cell", 0))
HIGH = (("gate", 2), ("cell", 0))


def without_fleeing(seed, many, **told):
    """Pairs of a plan and a filling without fleeing conditions."""
    return [(plan, filling) for plan, filling in many_fillings(seed, many, **told)
            if all(not plan.catalogue[kind].flees(condition) for kind, condition in filling)]


class AlikeTest(unittest.TestCase):
    def test_a_table(self):
        alike = Alike(EXAMPLE, [["gate", 0], ["cell", 0]], EXAMPLE, LOW)
        self.assertIs(bool(alike), True)
        self.assertEqual((alike.row, alike.table), (None, (((0,), (0,)),)))
        self.assertEqual((len(alike), list(alike)), (1, [((0,), (0,))]))
        both = Alike(EXAMPLE, JOINED, EXAMPLE, JOINED)
        self.assertEqual(both.table, (((0,), (0,)), ((1,), (1,))))

    def test_a_row(self):
        alike = Alike(EXAMPLE, OWN, EXAMPLE, JOINED)
        self.assertIs(bool(alike), False)
        self.assertEqual((alike.row, alike.table), (((1,), (0,)), None))
        self.assertEqual((len(alike), list(alike)), (0, []))
        # At g they differ at once.
        self.assertEqual(Alike(EXAMPLE, OWN, EXAMPLE, JOINED, lines=["g"], other_lines=["g"]).row, ((1,),))

    def test_two_plans(self):
        # What is joined of an input with itself is the input.
        plain = Plan(CATALOGUE, ("a",), (("j", ("join",), ("a", "a"), 1),), ("j",))
        self.assertTrue(Alike(plain, plain.own, EXAMPLE, OWN, other_lines=("in",)))
        self.assertEqual(Alike(plain, plain.own, EXAMPLE, OWN).row, ((1,),))
        self.assertEqual(Alike(plain, plain.own, EXAMPLE, OWN, other_lines=("in",)).table, (((), (0,)),))
        self.assertTrue(Alike(plain, plain.own, EMPTY, (), lines=("j", "a"), other_lines=("in", "in")))

    def test_no_place_and_no_entry(self):
        self.assertEqual(Alike(EMPTY, (), EMPTY, ()).table, (((), ()),))
        other = Plan(Catalogue(3, (FIXED, Kind(3, "two", 0, (2,)), Kind(3, "one", 0, (1,)))), (),
                     (("s", ("two", "one"), (), 1),), ("s",))
        self.assertTrue(Alike(STILL, STILL.own, other, other.own))
        self.assertEqual(Alike(STILL, STILL.own, other, (("one", 0),)).row, ((),))
        alike = Alike(ring_of(3), (("cell", 0), ("cold", 0), ("cell", 0)), ring_of(2), ring_of(2).own)
        self.assertEqual((alike.row, bool(alike)), (((), ()), False))

    def test_as_told_for_many_plans(self):
        chance = random.Random(51)
        told = {True: 0, False: 0}
        for plan, filling in without_fleeing(52, 600, broken=2):
            other = any_filling(chance, plan, 1)
            lines = chance.choice((None, (chance.choice(plan.lines),) * 2))
            if any(plan.catalogue[kind].flees(condition) for kind, condition in other):
                continue
            alike = Alike(plan, filling, plan, other, lines=lines, other_lines=lines)
            told[bool(alike)] += filling != other
            same = least_table(plan, filling, lines) == least_table(plan, other, lines)
            self.assertIs(bool(alike), same)
            if alike:
                self.assertEqual(alike.table, naive.pairs_of_two(plan, filling, plan, other))
                self.assertIsNone(judge_pairs(plan, filling, plan, other, alike.table, lines=lines, other_lines=lines))
            else:
                names = lines or plan.exits
                self.assertEqual(alike.row, naive.first_parting(plan, filling, names, plan, other, names, len(alike.row)))
        self.assertGreater(min(told.values()), 25)

    def test_errors_in_their_order(self):
        for call in (Alike, lambda *things, **named: judge_pairs(*things, None, **named)):
            bad = {"lines": ("odd",), "other_lines": ("odder",)}
            self.assertEqual(error_of(call, EXAMPLE, None, STILL, None, **bad), ("BadFilling", -1))
            self.assertEqual(error_of(call, EXAMPLE, (HIGH[0], ("cell", True)), STILL, None, **bad), ("BadFilling", 1))
            self.assertEqual(error_of(call, EXAMPLE, HIGH, STILL, None, **bad), ("Flees", 0))
            self.assertEqual(error_of(call, EXAMPLE, OWN, STILL, None, **bad), ("BadFilling", -1))
            self.assertEqual(error_of(call, EXAMPLE, OWN, STILL, [["fixed", 1]], **bad), ("Flees", 0))
            self.assertEqual(error_of(call, EXAMPLE, OWN, STILL, STILL.own, **bad), ("Unknown", "odd"))
            self.assertEqual(error_of(call, EXAMPLE, OWN, STILL, STILL.own, other_lines=["s", "in"]), ("Unknown", "in"))
            self.assertEqual(error_of(call, EXAMPLE, OWN, STILL, STILL.own), ("Unlike", "signs"))
            two = TURNED.changed(exits=("j",))
            self.assertEqual(error_of(call, EXAMPLE, OWN, TURNED, TURNED.own), ("Unlike", "entries"))
            self.assertEqual(error_of(call, TURNED, TURNED.own, two, two.own), ("Unlike", "lines"))
            self.assertEqual(error_of(call, two, two.own, two, two.own, lines=("j", "j")), ("Unlike", "lines"))
        # All places are looked at for what is no pair ahead of what flees.
        self.assertEqual(error_of(Alike, EXAMPLE, (("gate", 2), ("cell", 9)), STILL, None), ("BadFilling", 1))


class JudgePairsTest(unittest.TestCase):
    def judged(self, table, other=JOINED):
        return judge_pairs(EXAMPLE, JOINED, EXAMPLE, other, table)

    def test_closed_tables(self):
        closed = (((0,), (0,)), ((1,), (1,)))
        self.assertIsNone(self.judged(closed))
        self.assertIsNone(self.judged([[[1], [1]], [[0], [0]]]))
        self.assertIsNone(self.judged((*closed, closed[0])))
        # A table may have pairs that no machine ever has, if they are closed, too.
        cells = Plan(CATALOGUE, (), (("k", ("cell", "cold"), ("k",), 1),), ("k",))
        self.assertIsNone(judge_pairs(cells, cells.own, cells, cells.own, (((1,), (1,)), ((0,), (0,)))))
        self.assertIsNone(judge_pairs(EMPTY, (), EMPTY, (), (((), ()),)))

    def test_without_the_beginnings(self):
        bad = (None, (), [], "ab", 7, (((1,), (1,)),), (((False,), (0,)),), (((0,), (0,), ()),), ("00",), ((0, 0),))
        for table in bad:
            self.assertEqual(self.judged(table), -1, table)
        self.assertEqual(self.judged((None, ((1,), (0,)))), -1)

    def test_the_first_row_that_is_wrong(self):
        begun, went = ((0,), (0,)), ((1,), (1,))
        self.assertEqual(self.judged((begun,)), 0)
        self.assertEqual(self.judged((went, begun, ((1,), (0,)))), 2)
        for row in (None, (), (1, 1), ((1,),), ((2,), (1,)), ((True,), (1,)), ((1,), (1, 1)), ((1,), "1"), "ab", 5,
                    ((1,), (None,)), ((1,), (1,), (1,))):
            self.assertEqual(self.judged((begun, row, went, None)), 1, row)
        # The row that bars comes ahead of a later one that is no pair.
        self.assertEqual(self.judged((begun, None)), 0)
        self.assertEqual(self.judged((begun, went), other=OWN), 0)
        self.assertEqual(self.judged((((1,), (1,)), begun), other=(("join", 1), ("cell", 0))), 0)

    def test_standings_of_two_plans(self):
        plain = Plan(CATALOGUE, ("a",), (("j", ("join",), ("a", "a"), 1),), ("j",))
        told = {"other_lines": ("in",)}
        self.assertIsNone(judge_pairs(plain, plain.own, EXAMPLE, OWN, (((), (0,)),), **told))
        self.assertEqual(judge_pairs(plain, plain.own, EXAMPLE, OWN, (((), (0,)), ((0,), ())), **told), 1)
        self.assertEqual(judge_pairs(plain, plain.own, EXAMPLE, OWN, (((0,), ()),), **told), -1)

    def test_each_pair_is_needed(self):
        for plan, filling in without_fleeing(53, 150):
            alike = Alike(plan, filling, plan, filling)
            for at in range(1, len(alike)):
                self.assertIsNotNone(judge_pairs(plan, filling, plan, filling, alike.table[:at] + alike.table[at + 1:]))


class ClassesTest(unittest.TestCase):
    def test_lots(self):
        self.assertEqual(classes(EXAMPLE, ()), ())
        self.assertEqual(classes(EXAMPLE, (JOINED, OWN, [["gate", 1], ["cell", 0]], JOINED)), ((0, 3), (1, 2)))
        self.assertEqual(classes(EXAMPLE, (JOINED, OWN, LOW), lines=["in"]), ((0, 1, 2),))
        self.assertEqual(classes(EXAMPLE, (OWN, (("gate", 0), ("cold", 0)), LOW), ("g",)), ((0, 2), (1,)))

    def test_as_alike_for_many(self):
        chance = random.Random(54)
        several = 0
        for plan, _ in many_fillings(55, 40, places=(2, 3)):
            fillings = [any_filling(chance, plan, 1) for _ in range(12)]
            fillings = [told for told in fillings
                        if not any(plan.catalogue[kind].flees(condition) for kind, condition in told)]
            lots = []
            for at, filling in enumerate(fillings):
                like = [lot for lot in lots if Alike(plan, fillings[lot[0]], plan, filling)]
                if like:
                    like[0].append(at)
                else:
                    lots.append([at])
            self.assertEqual(classes(plan, fillings), tuple(map(tuple, lots)))
            several += len(lots) > 1
        self.assertGreater(several, 10)

    def test_errors(self):
        self.assertEqual(error_of(classes, EXAMPLE, (OWN, HIGH, None), ("odd",)), ("Flees", 0))
        self.assertEqual(error_of(classes, EXAMPLE, (OWN, (OWN[0], ("cell", 7)), HIGH), ("odd",)), ("BadFilling", 1))
        self.assertEqual(error_of(classes, EXAMPLE, (OWN, None, HIGH)), ("BadFilling", -1))
        self.assertEqual(error_of(classes, EXAMPLE, (OWN, LOW), ("in", "odd")), ("Unknown", "odd"))
        self.assertEqual(error_of(classes, EXAMPLE, (), ("odd",)), ("Unknown", "odd"))
