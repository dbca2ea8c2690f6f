"""What holds between manuals, whatever they are."""

import random
import unittest

from tests.raising import error_of
from tests.repairs import (BOOK, DROP, ONE, STUCK, TURN, WIRE, ZERO, any_manual, manual_of, many_rich_works,
                           many_wire_works,
                           many_works, the_case, wire_case)
from tests.samples import CATALOGUE
from tinkerhall.alike import classes
from tinkerhall.cases import Case
from tinkerhall.covers import Behaviour
from tinkerhall.flows import flow
from tinkerhall.judging import standings_of
from tinkerhall.manread import read_manual
from tinkerhall.manuals import Manual
from tinkerhall.manwrite import write_manual
from tinkerhall.runs import follow, left_by, runs_in
from tinkerhall.totals import bills, most_minutes, needs
from tinkerhall.verdicts import Verdict

LEAVE = ("leave",)


def by_hand(manual):
    """The manual with its calls and repeats, none of which has a leave, written out; None if it has a leave."""
    def written(body):
        found = []
        for statement in body:
            if statement[0] == "call":
                found += written(manual[statement[1]])
            elif statement[0] == "repeat":
                found += written(statement[2]) * statement[1]
            elif statement[0] == "if":
                found.append((*statement[:2], tuple(written(statement[2])), tuple(written(statement[3]))))
            else:
                found.append(statement)
        return found

    if LEAVE in list(manual.statements()):
        return None
    return Manual(manual.tests, ((manual.chapters[0][0], written(manual.chapters[0][1])),))


def without_swaps(manual):
    """The manual with a say in the place of each swap and back."""
    def written(body):
        found = []
        for statement in body:
            if statement[0] in ("swap", "back"):
                found.append(("say", statement[1]))
            elif statement[0] == "if":
                found.append((*statement[:2], written(statement[2]), written(statement[3])))
            elif statement[0] == "repeat":
                found.append((*statement[:2], written(statement[2])))
            else:
                found.append(statement)
        return tuple(found)

    return Manual(manual.tests, [(name, written(body)) for name, body in manual.chapters])


class WrittenOutTest(unittest.TestCase):
    def assert_same(self, case, manual, other):
        self.assertEqual(flow(other), flow(manual))
        self.assertEqual(standings_of(case, other), standings_of(case, manual))
        for world in range(len(case)):
            runs = list(runs_in(case, manual, world))
            self.assertEqual(list(runs_in(case, other, world)), runs)
            for run in runs:
                self.assertEqual(left_by(case, other, run.signs), left_by(case, manual, run.signs))
                self.assertEqual(follow(case, other, run.signs), follow(case, manual, run.signs))
        self.assertEqual(bills(case, other), bills(case, manual))

    def test_by_hand(self):
        look, swap, no = ("look", "one", "g"), ("swap", "g"), ("if", (0,), (("swap", "g"),), ())
        manual = manual_of(("repeat", 2, (("call", "try"), ("say", "c"))), ("call", "empty"), ("repeat", 3, ()), ("done",),
                           **{"try": (look, ("repeat", 1, (no, ("call", "empty")))), "empty": ()})
        other = manual_of(look, no, ("say", "c"), look, no, ("say", "c"), ("done",))
        self.assert_same(wire_case((), ZERO, TURN, STUCK), manual, other)
        # With a leave: as long as the sign is 0, at most three times.
        manual = manual_of(("repeat", 3, (look, ("if", (1,), (LEAVE,), ()), swap)), ("done",))
        rest = (look, ("if", (1,), (), (swap,)))
        other = manual_of(look, ("if", (1,), (), (swap, look, ("if", (1,), (), (swap, *rest)))), ("done",))
        case = wire_case((), ZERO, TURN)
        for world in range(3):
            self.assertEqual([(run.signs, run.events, run.bill, run.arrangement) for run in runs_in(case, manual, world)],
                             [(run.signs, run.events, run.bill, run.arrangement) for run in runs_in(case, other, world)])

    def test_many(self):
        changed = 0
        for case, manual in (*many_works(351, 300), *many_rich_works(300, 300), *many_wire_works(301, 200)):
            other = by_hand(manual)
            if other is not None and other != manual:
                self.assert_same(case, manual, other)
                changed += len(flow(manual)) > 4
        self.assertGreater(changed, 60)


class WorldsThatAreAlikeTest(unittest.TestCase):
    def test_the_same_runs_and_whole_classes(self):
        parted = told = 0
        for case, manual in (*many_works(352, 300), *many_rich_works(300, 300), *many_wire_works(301, 200)):
            manual = without_swaps(manual)
            fillings = [case.filling_in(world) for world in range(len(case))]
            plain = [world for world, filling in enumerate(fillings)
                     if not any(case.plan.catalogue[kind].flees(condition) for kind, condition in filling)]
            if not plain:
                continue
            case = case.with_worlds(tuple(plain))
            lots = classes(case.plan, [case.filling_in(world) for world in range(len(case))], case.plan.lines)
            for lot in lots:
                runs = list(runs_in(case, manual, lot[0]))
                for world in lot[1:]:
                    self.assertEqual(list(runs_in(case, manual, world)), runs)
                    told += 1
            for _, _, _, left in standings_of(case, manual):
                for lot in lots:
                    self.assertIn(len([world for world in lot if world in left]), (0, len(lot)))
                parted += 0 < len(left) < len(case)
        self.assertGreater(told, 100)
        self.assertGreater(parted, 100)

    def test_worlds_that_only_swaps_part(self):
        # What is broken on the shelf shows only when it is put in.
        case = wire_case((), ((2, 1),))
        self.assertEqual(classes(WIRE, [case.filling_in(0), case.filling_in(1)], WIRE.lines), ((0, 1),))
        manual = manual_of(("swap", "g"), ("look", "one", "g"))
        self.assertEqual(left_by(case, without_swaps(manual), (1,)), (0, 1))
        self.assertEqual(left_by(case, manual, (1,)), (0,))


class CoveringTest(unittest.TestCase):
    def test_what_covers_is_left(self):
        covered = 0
        for case, manual in (*many_works(353, 200), *many_rich_works(300, 200), *many_wire_works(301, 200)):
            if len(case.plan.keeping) > 2:
                continue
            manual = without_swaps(manual)
            seen = [[Behaviour(case.plan, case.filling_in(world), lines=(line,)) for line in case.plan.lines]
                    for world in range(len(case))]
            for one in range(len(case)):
                for other in range(len(case)):
                    if one != other and all(first.covers(second) for first, second in zip(seen[one], seen[other])):
                        for run in runs_in(case, manual, other):
                            for many in range(len(run.signs) + 1):
                                left = left_by(case, manual, run.signs[:many])
                                self.assertIn(other, left)
                                self.assertIn(one, left)
                        covered += 1
        self.assertGreater(covered, 100)

    def test_what_comes_and_goes_covers_what_is_whole(self):
        case = wire_case((), DROP, TURN)
        manual = manual_of(("look", "one", "g"), ("look", "two", "c"), ("look", "one", "c"))
        for run in runs_in(case, manual, 0):
            self.assertEqual(left_by(case, manual, run.signs), (0, 1, 2))
        self.assertNotIn(0, left_by(case, manual, (0,)))


class JoinedTest(unittest.TestCase):
    def test_written_read_back_and_joined(self):
        chance = random.Random(354)
        words = {}
        for case, manual in (*many_works(355, 200), *many_rich_works(300, 200), *many_wire_works(301, 200)):
            read = read_manual(list(write_manual(manual)))
            other = any_manual(chance, case.plan, 1)
            other = Manual([("x" + name, row) for name, row in other.tests], [("x", ()), ("y", ())])
            for told in (read, read + other if len(manual) < 5 else read):
                for limit in (0, 7, 60):
                    first, second = Verdict(case, manual, limit), Verdict(case, told, limit)
                    self.assertEqual((bool(first), first.breach, first.table), (bool(second), second.breach, second.table))
                    words[first.breach and first.breach[0]] = True
        self.assertEqual(len(words), 7)

    def test_what_is_not_called_must_be_for_the_plan(self):
        case = the_case()
        self.assertIsNone(error_of(Verdict, case, BOOK + Manual((), (("sub", (("swap", "g"),)),)), 5))
        joined = BOOK + Manual((), (("sub", (("swap", "odd"),)),))
        self.assertEqual(error_of(Verdict, case, joined, 5), ("Unknown", "odd"))
        joined = BOOK + Manual((("three", ((0, 0),)),), (("sub", ()),))
        self.assertEqual(error_of(Verdict, case, joined, 5), ("BadTest", "three"))
        self.assertEqual(error_of(Verdict, case, read_manual(write_manual(joined)), 5), ("BadTest", "three"))


class LimitTest(unittest.TestCase):
    def test_most_minutes_and_needs(self):
        let_in = cut = 0
        for case, manual in (*many_works(356, 400), *many_rich_works(300, 300), *many_wire_works(301, 200)):
            for strict in (True, False):
                if not Verdict(case, manual, 10000, strict=strict):
                    continue
                minutes, world = most_minutes(case, manual)
                self.assertTrue(Verdict(case, manual, minutes, strict=strict))
                if minutes > 0:
                    breach = Verdict(case, manual, minutes - 1, strict=strict).breach
                    self.assertEqual(breach[:2], ("late", world))
                    let_in += 1
                many = needs(case, manual)
                for shelf in (case.shelf[:many], case.shelf[:many + 1]):
                    less = Case(case.plan, case.kinds, case.placed, shelf, case.worlds, bench=case.bench)
                    verdict = Verdict(less, manual, minutes, strict=strict)
                    self.assertTrue(verdict)
                    whole = Verdict(case, manual, minutes, strict=strict)
                    self.assertEqual([(row[0], row[1][0], *row[2:]) for row in verdict],
                                     [(row[0], row[1][0], *row[2:]) for row in whole])
                if many > 0:
                    less = Case(case.plan, case.kinds, case.placed, case.shelf[:many - 1], case.worlds, bench=case.bench)
                    self.assertNotEqual([run.events for world in range(len(case)) for run in runs_in(less, manual, world)],
                                        [run.events for world in range(len(case)) for run in runs_in(case, manual, world)])
                    cut += 1
        self.assertGreater(let_in, 100)
        self.assertGreater(cut, 20)

    def test_by_hand(self):
        case = wire_case(ZERO, ONE)
        self.assertEqual(CATALOGUE["cell"], case.plan.catalogue["cell"])
        manual = manual_of(("swap", "g"), ("done",))
        self.assertEqual((most_minutes(case, manual), needs(case, manual)), ((3, 0), 1))
        self.assertTrue(Verdict(wire_case(ZERO, ONE, shelf=(2,)), manual, 3))
        self.assertEqual(Verdict(wire_case(ZERO, ONE, shelf=()), manual, 3).breach, ("lack", 0, ()))
        self.assertEqual(Verdict(case, manual, 2).breach, ("late", 0, ()))
