import random
import unittest

from tests.houses import told_of
from tests.judged import Judge
from tests.raising import error_of
from tests.repairs import MEND, any_manual, manual_of
from tests.working import (BARE, MANUAL, bring_in, many_wire_houses, plain_case, plain_rows, ways_house, wire_house)
from tinkerhall.allowed import candidates, conditions, worlds
from tinkerhall.cases import Case
from tinkerhall.claims import decide
from tinkerhall.manuals import Manual
from tinkerhall.runs import Run, follow, left_by
from tinkerhall.verdicts import Verdict
from tinkerhall.working import admitted, case_of, do_manual

DONE = ("done",)
# A part of the lot `old` is broken, by a bulletin of the present moment.
BROKEN = ("told", 6, "old", 1, 1)


def state_of(house):
    return house.book, told_of(house.floor()), house.in_force(), house.now, house.today


class CaseOfTest(unittest.TestCase):
    def test_case_of(self):
        house = wire_house()
        house.enter(BROKEN, ("swap", "m", "g", 4), ("swap", "m", "g", 2))
        case = case_of(house, "m")
        self.assertIsInstance(case, Case)
        self.assertIs(case.plan, house.plan_of("wire"))
        self.assertEqual(case.kinds, ("pass", "cell", "pass", "cell", "turner"))
        self.assertEqual((case.placed, case.shelf, case.bench), ((2, 1), (3,), (("g", 0), ("g", 4))))
        self.assertEqual(case.worlds, ((0, 1, 0, 0, 0), (0, 2, 0, 0, 0), (1, 0, 0, 0, 0), (2, 0, 0, 0, 0), (3, 0, 0, 0, 0)))

    def test_each_row_once(self):
        house = wire_house()
        house.enter(("day",), ("day",), ("told", 8, "old", 1, 1))
        self.assertEqual(len(worlds(house)), 3 * 5)
        self.assertEqual(len(case_of(house, "m")), 5)

    def test_the_bench_of_this_machine_alone(self):
        house = wire_house()
        house.enter(("come", "pass", "new"), ("come", "cell", "new"), ("build", "n", "wire", (5, 6)), ("swap", "n", "c", 3),
                    ("swap", "m", "g", 2), ("scrap", 0), ("swap", "m", "g", 4))
        self.assertEqual((case_of(house, "m").bench, case_of(house, "n").bench), ((("g", 2),), (("c", 6),)))
        self.assertEqual((case_of(house, "m").shelf, case_of(house, "m").kinds), ((), house.floor().kinds))
        self.assertEqual(case_of(house, "n").placed, (5, 3))

    def test_a_machine_without_places(self):
        house = wire_house(most=0)
        house.enter(("build", "b", "bare", ()))
        case = case_of(house, "b")
        self.assertEqual((case.plan, case.placed, case.shelf, case.worlds), (BARE, (), (2, 3, 4), ((0,) * 5,)))
        self.assertTrue(admitted(house, "b", manual_of(DONE), 0))

    def test_as_told_for_many_houses(self):
        for house in many_wire_houses(501, 200):
            for name, _, _, inside in house.floor().machines:
                if not inside:
                    self.assertEqual(error_of(case_of, house, name), ("Away", name))
                elif not plain_rows(house):
                    self.assertEqual(error_of(case_of, house, name), ("NoWorld", house.now))
                else:
                    self.assertEqual(case_of(house, name), plain_case(house, name))

    def test_300_rows_and_301(self):
        house = ways_house((1, 4, 5, 6), 3)
        self.assertEqual((candidates(house), len(case_of(house, "m"))), (300, 300))
        house = ways_house((1, 4, 5, 5, 5, 6), 2)
        self.assertEqual(len(worlds(house)), 301)
        self.assertEqual(error_of(case_of, house, "m"), ("TooMany", "world"))
        # Two days later there are more worlds, but as many rows.
        house = ways_house((1, 4, 5, 6), 3)
        house.enter(("day",))
        self.assertEqual(candidates(house), 1 + 2 * 16 + 4 * 89 + 8 * 194)
        self.assertEqual(len(case_of(house, "m")), 300)

    def test_2000_candidates_and_2001(self):
        house = ways_house((3,) * 7 + (4,), 3)
        self.assertEqual((candidates(house), len(worlds(house))), (2000, 2000))
        self.assertEqual(error_of(case_of, house, "m"), ("TooMany", "world"))
        house.enter(("told", 9, "one", 2, 2), ("told", 9, "one", 0, 1))
        self.assertEqual(error_of(case_of, house, "m"), ("NoWorld", 11))
        house = ways_house((2, 3, 3, 3, 4, 5, 6), 3)
        house.enter(("told", 8, "one", 0, 0))
        self.assertEqual((candidates(house), error_of(case_of, house, "m")), (2001, ("TooMany", "world")))
        house.enter(("told", 8, "one", 1, 1))
        self.assertEqual(error_of(case_of, house, "m"), ("TooMany", "world"))

    def test_errors_in_their_order(self):
        house = wire_house()
        house.enter(("told", 6, "old", 1, 1), ("told", 6, "new", 1, 1), ("build", "b", "bare", ()), ("give", "m"))
        for name in ("odd", "wire", "", None, 0, ["m"]):
            for call, told in ((case_of, ()), (admitted, (None, None)), (do_manual, (None, None))):
                self.assertEqual(error_of(call, house, name, *told), ("Unknown", name))
        for call, told in ((case_of, ()), (admitted, (None, None)), (do_manual, (None, None))):
            self.assertEqual(error_of(call, house, "m", *told), ("Away", "m"))
            self.assertEqual(error_of(call, house, "b", *told), ("NoWorld", 10))


class AdmittedTest(unittest.TestCase):
    def test_admitted(self):
        house = wire_house()
        house.enter(BROKEN)
        swaps = manual_of(("swap", "g"), ("swap", "c"), DONE)
        verdict = admitted(house, "m", swaps, 8)
        self.assertIsInstance(verdict, Verdict)
        self.assertEqual((bool(verdict), verdict.table), (True, Verdict(case_of(house, "m"), swaps, 8).table))
        self.assertEqual(admitted(house, "m", swaps, 7).breach, ("late", 0, ()))
        self.assertEqual(admitted(house, "m", manual_of(("say", "g")), 7).breach, ("untrue", 0, ()))
        self.assertEqual(admitted(house, "m", manual_of(), 7).breach, ("quit", 0, ()))
        self.assertIsNone(admitted(house, "m", manual_of(), 7, strict=False).breach)

    def test_errors(self):
        house = wire_house()
        wide = Manual((("one", ((0, 0),)),), (("main", (("say", "odd"),)),))
        self.assertEqual(error_of(admitted, house, "m", wide, None), ("BadTest", "one"))
        self.assertEqual(error_of(admitted, house, "m", manual_of(("say", "odd")), None), ("Unknown", "odd"))
        for limit in (-1, 10001, True, None):
            self.assertEqual(error_of(admitted, house, "m", manual_of(), limit), ("BadLimit", limit))


class DoManualTest(unittest.TestCase):
    def test_what_is_entered(self):
        house = wire_house()
        house.enter(BROKEN)
        run = do_manual(house, "m", MANUAL, [0, 1])
        self.assertIsInstance(run, Run)
        self.assertEqual((run.ended, run.signs), ("done", (0, 1)))
        self.assertEqual(run.events, (("look", "one", "g", 0), ("swap", "g", 2), ("say", "c", 1), ("look", "two", "c", 1),
                                      ("swap", "c", 3), ("back", "g", 0), DONE))
        self.assertEqual(house.book[7:], (("seen", 7, "m", ((1,), (1,)), ((1, "g", 0),)), ("swap", "m", "g", 2),
                                          ("seen", 9, "m", ((0,), (0,)), ((1, "c", 1),)), ("swap", "m", "c", 3),
                                          ("back", "m", "g")))
        floor = house.floor()
        self.assertEqual((floor.machine("m"), floor.shelf, floor.bench),
                         (("m", "wire", (0, 3), True), (2, 4), (("m", "c", 1),)))

    def test_a_run_that_asks_a_run_that_lacks_and_an_empty_one(self):
        house = wire_house()
        run = do_manual(house, "m", MANUAL, (0,))
        self.assertEqual((run.ended, house.book[6:]), ("asks", (("seen", 6, "m", ((1,), (1,)), ((1, "g", 0),)),
                                                                ("swap", "m", "g", 2))))
        run = do_manual(house, "m", manual_of(("swap", "c"), ("swap", "c"), ("swap", "g")), ())
        self.assertEqual((run.ended, house.book[8:]), ("lack", (("swap", "m", "c", 3),)))
        before = house.copy()
        run = do_manual(house, "m", manual_of(("say", "g"), ("if", (0,), (), ()), ("back", "g"), ("swap", "g"),
                                              ("back", "g"), DONE), ())
        self.assertEqual(house.book[9:], (("back", "m", "g"), ("swap", "m", "g", 2), ("back", "m", "g")))
        self.assertEqual(do_manual(before, "m", MANUAL, ()).ended, "asks")
        self.assertEqual(before.now, 9)

    def test_signs_that_no_world_can_show(self):
        house = wire_house(most=0)
        run = do_manual(house, "m", MANUAL, (0, 1))
        self.assertEqual(run.ended, "done")
        self.assertEqual((house.now, worlds(house)), (11, ()))
        self.assertEqual(error_of(do_manual, house, "m", MANUAL, ()), ("NoWorld", 11))

    def test_the_worlds_behind_it_are_those_that_the_signs_leave(self):
        chance = random.Random(502)
        done = left_none = 0
        for house in many_wire_houses(501, 200):
            house = house.copy()
            bring_in(house)
            for name, plan, _, _ in house.floor().machines:
                if not worlds(house):
                    break
                case = case_of(house, name)
                manual = any_manual(chance, house.plan_of(plan), 2)
                if len([step for step in Judge(case, manual).flow if step[0] == "look"]) > 8:
                    continue
                signs = tuple(chance.randrange(2) for _ in range(chance.randrange(4)))
                wanted = follow(case, manual, signs)
                left = left_by(case, manual, signs)
                begun = house.now
                self.assertEqual(do_manual(house, name, manual, signs), wanted)
                rows = {conditions(house, world, house.today) for world in worlds(house)}
                self.assertEqual(rows, {case[world] for world in left})
                self.assertEqual([entry[0] for entry in house.book[begun:]],
                                 [{"look": "seen"}.get(event[0], event[0]) for event in wanted.events
                                  if event[0] in ("look", "swap", "back")])
                self.assertEqual(house.floor().machine(name)[2], wanted.arrangement[0])
                self.assertEqual(house.floor().shelf, wanted.arrangement[1])
                if left:
                    self.assertEqual(case_of(house, name).arrangement, wanted.arrangement)
                    self.assertEqual(case_of(house, name).worlds, tuple(case[world] for world in left))
                done += house.now > begun
                left_none += not left
        self.assertGreater(done, 50)
        self.assertGreater(left_none, 5)

    def test_a_book_of_60_entries(self):
        house = wire_house()
        for _ in range(24):
            house.enter(("give", "m"), ("take", "m"))
        self.assertEqual(house.now, 54)
        more = manual_of(("repeat", 3, (("swap", "g"), ("back", "g"))), DONE)
        one_more = manual_of(("look", "one", "in"), *more["main"])
        before = state_of(house)
        self.assertEqual(error_of(do_manual, house, "m", one_more, (1,)), ("TooMany", "entry"))
        self.assertEqual(state_of(house), before)
        self.assertEqual(do_manual(house, "m", more, ()).ended, "done")
        self.assertEqual((house.now, error_of(do_manual, house, "m", more, ())), (60, ("TooMany", "entry")))
        # Nothing is to be entered of these.
        self.assertEqual(do_manual(house, "m", manual_of(("say", "g"), DONE), ()).ended, "done")
        self.assertEqual(do_manual(house, "m", one_more, ()).ended, "asks")

    def test_errors_in_their_order(self):
        house = wire_house()
        for _ in range(27):
            house.enter(("give", "m"), ("take", "m"))
        before = state_of(house)
        wide = Manual((("one", ((0, 0),)),), (("main", (("say", "odd"),)),))
        self.assertEqual(error_of(do_manual, house, "m", wide, None), ("BadTest", "one"))
        self.assertEqual(error_of(do_manual, house, "m", manual_of(("say", "odd")), None), ("Unknown", "odd"))
        self.assertEqual(error_of(do_manual, house, "m", MANUAL, None), ("BadSign", -1))
        self.assertEqual(error_of(do_manual, house, "m", MANUAL, (1, 2)), ("BadSign", 1))
        self.assertEqual(error_of(do_manual, house, "m", MANUAL, (True,)), ("BadSign", 0))
        self.assertEqual(error_of(do_manual, house, "m", MANUAL, (0,)), ("TooMany", "entry"))
        self.assertEqual(state_of(house), before)

    def test_all_words_of_a_manual(self):
        house = wire_house()
        self.assertEqual(do_manual(house, "m", manual_of(*MEND), (1,)).events, (("look", "one", "g", 1), DONE))
        # What was read is news: the wire is not surely whole, but it does not give 0 for ever.
        self.assertEqual(decide(house, ("never", ((0, 1),)))[0], "paper")
        self.assertEqual(decide(house, ("whole", 0))[0], "world")
