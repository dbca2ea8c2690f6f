import itertools
import random
import unittest

from tests.judged import Judge
from tests.played import MENU, TESTS, TWO, Player, large_play, many_plays, many_rich_plays
from tests.raising import error_of
from tests.repairs import (DROP, FLASH, ONE, STUCK, TURN, WIRE, WIRED, ZERO, any_manual, as_lists, lamp_case, wire_case)
from tests.samples import EMPTY
from tinkerhall.best import Best
from tinkerhall.cases import Case
from tinkerhall.kinds import Catalogue, Kind
from tinkerhall.leaning import leaned
from tinkerhall.manread import read_manual
from tinkerhall.manuals import Manual
from tinkerhall.manwrite import write_manual
from tinkerhall.menus import Menu
from tinkerhall.plans import Plan
from tinkerhall.runs import runs_in
from tinkerhall.totals import most_minutes
from tinkerhall.values import value_table
from tinkerhall.verdicts import Verdict

DONE, LOOK, SWAP_G, SWAP_C = ("done",), ("look", "one", "g"), ("swap", "g"), ("swap", "c")


def best_body(case, menu=MENU, goal=None):
    return Best(case, menu, goal=goal).written()["best"]


def lamps_play(rows):
    """Lamps to be told apart by looks, for each row a world, and all answers different."""
    wide = Kind(3, "wide", 0, (0,), ways=(("stands", "one", (1,)), ("stands", "two", (2,))))
    names = ["p" + "abcdef"[at] for at in range(len(rows[0]))]
    plan = Plan(Catalogue(3, (wide,)), (), [(name, ("wide",), (), 1) for name in names], names[:1])
    case = Case(plan, ("wide",) * len(names), tuple(range(len(names))), (), rows)
    return case, Menu(plan, FLASH, [("now", name) for name in names]), tuple(range(len(rows)))


class BestTest(unittest.TestCase):
    def test_attributes(self):
        case = wire_case((), ZERO, STUCK)
        best = Best(case, MENU)
        self.assertIs(bool(best), True)
        self.assertEqual(best.value, 8)
        self.assertEqual(best.table, value_table(case, MENU))
        self.assertEqual((len(best), tuple(best)), (len(best.table), best.table))
        self.assertEqual(best.trap, ())

    def test_written(self):
        case = wire_case((), ZERO, STUCK)
        # Nothing tells whether the cell is stuck but the look at the wire, which then is not the fault.
        manual = Best(case, MENU).written()
        self.assertIsInstance(manual, Manual)
        self.assertEqual((manual.tests, list(manual)), (TESTS[:1], ["best"]))
        self.assertEqual(manual["best"], (LOOK, ("if", (0,), (SWAP_G, DONE), (SWAP_C, DONE))))
        long = WIRE.changed(places=(("g", ("pass", "turner"), ("in",), 9), WIRE.places[1]))
        case = Case(long, WIRED, (0, 1), (2, 3, 4), case.worlds)
        menu = Menu(long, TESTS, (("two", "c"), ("odd", "g"), ("one", "g")))
        best = Best(case, menu)
        # The look that takes 2 minutes tells as much as the one that takes 3; then one swap will do.
        self.assertEqual(best.value, 2 + 9)
        self.assertEqual(best.written(), Manual(TESTS[2:], (("best",
                                                             (("look", "odd", "g"),
                                                              ("if", (0,), (SWAP_G, DONE), (SWAP_C, DONE)))),)))
        self.assertEqual(Best(case, Menu(long, TESTS, (("one", "g"),))).value, 3 + 9)

    def test_met_at_the_beginning(self):
        for case, menu, goal in ((wire_case(), MENU, None), (wire_case((), ((2, 1),)), MENU, None),
                                 (wire_case(ZERO, ONE), MENU, (3, 3)),
                                 (Case(EMPTY, (), (), (), ((),)), Menu(EMPTY, (), ()), None)):
            best = Best(case, menu, goal=goal)
            self.assertEqual((bool(best), best.value, len(best), best.trap, best.worst()), (True, 0, 1, (), ()))
            self.assertEqual(best.written(), Manual((), (("best", (DONE,)),)))

    def test_a_goal(self):
        case = wire_case(ZERO, ONE, STUCK)
        # Which world it is: whether the wire gives 0, and, if not, whether 1 comes through.
        self.assertEqual(case.worlds, ((0, 1, 0, 0, 0), (1, 0, 0, 0, 0), (2, 0, 0, 0, 0)))
        menu = Menu(WIRE, TESTS, (("two", "g"), ("odd", "g")))
        best = Best(case, menu, goal=[0, 1, 2])
        two, odd = ("look", "two", "g"), ("look", "odd", "g")
        self.assertEqual(best.value, 5)
        self.assertEqual(best.written(), Manual(TESTS[1:], (("best",
                                                             (two,
                                                              ("if", (0,), (odd, ("if", (0,), (DONE,), (DONE,))),
                                                               (DONE,)))),)))
        self.assertEqual(best_body(case, menu, (5, 5, 6)), (two, ("if", (0,), (DONE,), (DONE,))))
        self.assertEqual(best_body(case, menu, (5, 6, 5)), (odd, ("if", (0,), (DONE,), (DONE,))))

    def test_no_manual(self):
        case = wire_case((), STUCK, shelf=(2,))
        best = Best(case, MENU)
        self.assertEqual((bool(best), best.value), (False, None))
        self.assertEqual(best.trap, ((((0, 1), (2,), ()), (0, 1)),))
        for call in (best.written, best.worst):
            self.assertEqual(error_of(call), ("NoManual", 1))
        # A menu without looks, and a shelf with nothing that fits.
        best = Best(wire_case(ZERO, ONE, DROP, shelf=(4, 2)), Menu(WIRE, (), ()))
        self.assertEqual((best.value, len(best), best.trap), (None, 3, tuple(row[:2] for row in best.table)))
        self.assertEqual(error_of(best.written), ("NoManual", 3))
        case, menu = large_play(2000)
        self.assertEqual(error_of(Best(case, menu).written), ("NoManual", 2000))

    def test_a_trap_beside_the_way(self):
        # One part for two places: who swaps without looking is lost.
        case = Case(TWO, ("pass", "pass", "pass"), (0, 1), (2,), ((0, 1, 0), (1, 0, 0)))
        best = Best(case, Menu(TWO, TESTS, (("odd", "p"),)))
        look = ("look", "odd", "p")
        swapped_p, swapped_q = case.swapped("p"), case.swapped("q")
        self.assertEqual((best.value, best.worst()), (6, (1,)))
        self.assertEqual(best.trap, ((swapped_p, (0, 1)), (swapped_q, (0, 1)), (swapped_q, (1,))))
        self.assertEqual(best.written()["best"], (look, ("if", (0,), (("swap", "p"), DONE), (("swap", "q"), DONE))))
        self.assertEqual(best.answer((swapped_q, (0, 1)), look), 0)
        self.assertEqual(best.answer((case.arrangement, (0, 1)), look), 1)
        # Without the look the beginning lies in the trap, too.
        best = Best(case, Menu(TWO, TESTS, ()))
        self.assertEqual((best.value, best.trap), (None, tuple(row[:2] for row in best.table)))
        self.assertEqual(error_of(best.written), ("NoManual", 3))

    def test_a_deed_that_can_lead_into_the_trap_is_not_chosen(self):
        # Two turners one behind the other do no harm. In the first world q is turned, and so is the part that fits in p; in the
        # second one p is turned. Whoever looks at p, and finds it whole, may not swap it any more.
        first = Kind(2, "first", 1, (0, 1), ways=(("stands", "turned", (1, 0)),))
        second = Kind(2, "second", 1, (0, 1), ways=(("stands", "turned", (1, 0)),))
        third = Kind(2, "third", 1, (0, 1), ways=(("stands", "turned", (1, 0)),))
        plan = Plan(Catalogue(2, (first, second, third)), ("in",),
                    (("p", ("first",), ("in",), 5), ("q", ("second", "third"), ("p",), 3)), ("q",))
        # The part in q is a stand-in, which is never cleared.
        case = Case(plan, ("first", "third", "first", "second"), (0, 1), (2, 3), ((1, 0, 0, 1), (0, 1, 1, 1)))
        look = ("look", "odd", "p")
        best = Best(case, Menu(plan, TESTS, (("odd", "p"),)))
        self.assertEqual(best.value, 5)
        self.assertEqual(dict((row[:2], row[2]) for row in best.table)[case.arrangement, (0,)], 3)
        self.assertIn((case.arrangement, (1,)), best.trap)
        # With the look, 2 minutes and 3 more would do in the first of its worlds.
        self.assertEqual((best.written()["best"], best.worst()), ((("swap", "p"), DONE), ()))
        self.assertEqual(best.answer((case.arrangement, (0, 1)), look), 1)

    def test_three_signs(self):
        case, menu, goal = lamps_play(((0,), (1,), (2,)))
        look = ("look", "now", "pa")
        best = Best(case, menu, goal=goal)
        self.assertEqual(best.written()["best"], (look, ("if", (0,), (DONE,), (("if", (1,), (DONE,), (DONE,)),))))
        self.assertEqual((best.value, best.worst()), (2, (0,)))

    def test_200_statements_and_201(self):
        every = list(itertools.product(range(3), repeat=4))
        case, menu, goal = lamps_play(every)
        best = Best(case, menu, goal=goal)
        self.assertEqual((best.value, len(best.trap)), (8, 0))
        for call in (best.written, best.worst):
            self.assertEqual(error_of(call), ("TooLong", 201))
        # Two of the last looks have just two signs, and behind one of these a fifth lamp is asked.
        rows = [(*row, 0) for row in every if row not in ((0, 0, 0, 2), (0, 0, 1, 2))] + [(0, 0, 1, 1, 1)]
        case, menu, goal = lamps_play(rows)
        best = Best(case, menu, goal=goal)
        manual = best.written()
        self.assertEqual((best.value, len(list(manual.statements())), best.worst()), (10, 200, (0, 0, 1, 1, 0)))

    def test_answer(self):
        case = wire_case((), ZERO, TURN, STUCK)
        best = Best(case, MENU)
        known = {row[:2]: row[2] for row in best.table}
        player = Player(case, MENU)
        told = {}
        for row in best.table:
            for deed in player.deeds(row[:2]):
                rank = [(known[follower] == -1, known[follower], -sign) for sign,
                        follower in player.followers(row[:2], deed)]
                self.assertEqual(best.answer(row[:2], deed), -max(rank)[2])
                self.assertEqual(best.answer(as_lists(row[:2]), list(deed)), -max(rank)[2])
                told[-max(rank)[2]] = True
        self.assertEqual(sorted(told), [-1, 0, 1])
        # None counts as the greatest.
        case = wire_case((), STUCK, ZERO, shelf=(2,))
        best = Best(case, MENU)
        self.assertEqual(best.answer((case.arrangement, (0, 1, 2)), LOOK), 1)
        self.assertEqual(best.answer((case.arrangement, (0, 1, 2)), SWAP_G), -1)

    def test_worst(self):
        lamp, menu, goal = lamps_play(((0, 0), (0, 1), (1, 0)))
        best = Best(lamp, menu, goal=goal)
        self.assertEqual((best.value, best.worst()), (4, (0, 0)))
        # Both (0, 0), (0, 1) and (1,) take the value; as tuples, (0, 0) is the least one.
        lamp = Kind(2, "lamp", 0, (0,), ways=(("stands", "on", (1,)),))
        wire = Kind(2, "wire", 1, (0, 1), ways=(("stands", "on", (1, 1)),))
        plan = Plan(Catalogue(2, (lamp, wire)), (), (("p", ("lamp",), (), 7), ("q", ("lamp",), (), 9),
                                                     ("r", ("wire",), ("p",), 7)),
                    ("q", "r"))
        case = Case(plan, ("lamp", "lamp", "wire", "lamp", "wire"), (0, 1, 2), (3, 4),
                    ((1, 0, 0, 0, 0), (0, 1, 0, 0, 0), (0, 0, 1, 0, 0)))
        best = Best(case, Menu(plan, FLASH, (("now", "p"), ("now", "q"))))
        self.assertEqual(best.written()["best"], (
            ("look", "now", "q"), ("if", (0,), (
                ("look", "now", "p"), ("if", (0,), (("swap", "r"), DONE), (("swap", "p"), DONE))), (("swap", "q"), DONE))))
        self.assertEqual((best.value, best.worst()), (11, (0, 0)))

    def test_as_told_for_many(self):
        told = {}
        for case, menu, goal in (*many_plays(401, 400), *many_rich_plays(402, 200)):
            player = Player(case, menu, goal)
            nodes, values = player.nodes(), player.values()
            best = Best(case, menu, goal=goal)
            self.assertEqual(best.table, tuple((*node, values[node]) for node in nodes))
            self.assertEqual(best.trap, tuple(node for node in nodes if values[node] == -1))
            self.assertEqual((best.value, bool(best)), (None, False) if values[nodes[0]] == -1 else (values[nodes[0]],
                True))
            if not best:
                self.assertEqual(error_of(best.written), ("NoManual", len(best.trap)))
                self.assertEqual(error_of(best.worst), ("NoManual", len(best.trap)))
                continue
            manual = best.written()
            self.assertEqual(manual.chapters, (("best", player.body(nodes[0], values)),))
            used = [statement[1] for statement in manual.statements() if statement[0] == "look"]
            self.assertEqual(manual.tests, tuple(test for test in menu.tests if test[0] in used))
            rows = [run.signs for world in range(len(case)) for run in runs_in(case, manual, world)
                    if run.bill.minutes == best.value]
            self.assertEqual(best.worst(), min(rows))
            told[len(best.worst())] = told.get(len(best.worst()), 0) + 1
        self.assertGreater(min(told.get(many, 0) for many in (0, 1, 2)), 3)

    def test_errors(self):
        case, menu = large_play(2001)
        self.assertEqual(error_of(Best, case, menu), ("TooMany", "node"))
        self.assertEqual(error_of(Best, case, menu, goal=(1,) * 8), ("BadGoal", (1,) * 8))


class BestManualTest(unittest.TestCase):
    def test_it_is_let_in_within_its_value_and_not_within_a_minute_less(self):
        looked = 0
        for case, menu, _ in (*many_plays(401, 400), *many_rich_plays(402, 200)):
            best = Best(case, menu)
            if not best:
                continue
            manual = read_manual(write_manual(best.written()))
            self.assertEqual(manual, best.written())
            self.assertTrue(Verdict(case, manual, best.value))
            self.assertEqual(most_minutes(case, manual)[0], best.value)
            if best.value > 0:
                self.assertEqual(Verdict(case, manual, best.value - 1).breach[0], "late")
            # It is lean already, but for its name.
            self.assertEqual(leaned(case, manual), manual)
            looked += len(manual.tests) > 0
        self.assertGreater(looked, 30)

    def test_where_there_is_none_no_row_of_swaps_is_let_in(self):
        without = 0
        for case, menu, _ in (*many_plays(401, 300), *many_rich_plays(402, 200)):
            best = Best(case, menu)
            places = [place[0] for place in case.plan.places]
            for many in range(len(case.shelf) + 1):
                for swaps in itertools.product(places, repeat=many):
                    manual = Manual((), (("main", (*[("swap", place) for place in swaps], DONE)),))
                    verdict = Verdict(case, manual, 10000)
                    if not best:
                        self.assertFalse(verdict)
                    elif verdict:
                        self.assertGreaterEqual(most_minutes(case, manual)[0], best.value)
            without += not best
        self.assertGreater(without, 50)

    def test_no_manual_of_the_looks_is_better(self):
        chance = random.Random(404)
        beaten = 0
        for case, menu, _ in (*many_plays(401, 400), *many_rich_plays(402, 200)):
            best = Best(case, menu)
            for _ in range(5):
                manual = of_menu(any_manual(chance, case.plan, 3), menu)
                if Verdict(case, manual, 10000):
                    self.assertTrue(best)
                    self.assertGreaterEqual(most_minutes(case, manual)[0], best.value)
                    beaten += 1
        self.assertGreater(beaten, 30)

    def test_more_of_something_never_makes_it_greater(self):
        changed = {}
        for case, menu, _ in many_rich_plays(402, 200):
            plan = case.plan
            worth = rank(Best(case, menu))
            pairs = [(name, line) for name, _ in (*menu.tests, ("new", 0)) for line in plan.lines]
            tests = (*menu.tests, ("new", ((0,), (1,))))
            looks = (*menu.looks, *[pair for pair in pairs if pair not in menu.looks])[:6]
            more = Best(case, Menu(plan, tests, looks))
            self.assertLessEqual(rank(more), worth)
            self.assertEqual(rank(Best(case, Menu(plan, tests, menu.looks))), worth)
            # One more part at the end of the shelf, whole in all worlds.
            kinds = (*case.kinds, "pass", "cell")
            parts = Case(plan, kinds, case.placed, (*case.shelf, 5, 6), [(*world, 0, 0) for world in case.worlds])
            self.assertLessEqual(rank(Best(parts, menu)), worth)
            fewer = Case(plan, case.kinds, case.placed, case.shelf[:-1], case.worlds)
            self.assertGreaterEqual(rank(Best(fewer, menu)), worth)
            # More minutes for a place.
            longer = plan.changed(places=(plan.places[0], (*plan.places[1][:3], 60)))
            slow = Best(Case(longer, case.kinds, case.placed, case.shelf, case.worlds),
                        Menu(longer, menu.tests, menu.looks))
            self.assertGreaterEqual(rank(slow), worth)
            for name, other in (("looks", more), ("parts", Best(parts, menu)), ("slow", slow)):
                changed[name] = changed.get(name, 0) + (rank(other) != worth)
        self.assertGreater(min(changed.values()), 5)

    def test_what_is_written_for_goals(self):
        for case, menu, goal in many_plays(401, 400):
            best = Best(case, menu, goal=goal)
            if goal is None or not best:
                continue
            manual = best.written()
            judge = Judge(case, manual)
            for standing in judge.standings():
                if judge.flow[standing[0]] == DONE:
                    self.assertEqual(len({goal[world] for world in standing[3]}), 1)
            # Nothing lacks, and nothing that is cleared is taken out.
            breach = Verdict(case, manual, best.value, strict=False).breach
            self.assertIn(breach and breach[0], (None, "bad"))

    def test_lamps(self):
        case = lamp_case(2)
        self.assertEqual(Best(case, Menu(case.plan, FLASH, (("now", "b"),))).value, 0)


def rank(best):
    return float("inf") if best.value is None else best.value


def of_menu(manual, menu):
    """The manual with the looks of the menu, and without put backs and says."""
    def written(body):
        found = []
        for at, statement in enumerate(body):
            if statement[0] == "look" and menu.looks:
                found.append(("look", *menu.looks[at % len(menu.looks)]))
            elif statement[0] == "if":
                found.append((*statement[:2], written(statement[2]), written(statement[3])))
            elif statement[0] == "repeat":
                found.append((*statement[:2], written(statement[2])))
            elif statement[0] in ("swap", "call", "leave", "done"):
                found.append(statement)
        return tuple(found)

    chapters = [(name, written(body)) for name, body in manual.chapters]
    return Manual(menu.tests, [(chapters[0][0], (*chapters[0][1], DONE)), *chapters[1:]])
