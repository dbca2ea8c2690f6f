import inspect
import random
import unittest

from tests.raising import error_of
from tests.repairs import BOOK, KINDS, Reader, manual_of, many_works, plain_readable, plain_runs, the_case
from tests.samples import EMPTY, EXAMPLE, STILL
from tinkerhall.bill import Bill
from tinkerhall.cases import Case
from tinkerhall.manuals import Manual
from tinkerhall.runs import Run, follow, left_by, runs_in

START = ((0, 1), (2, 3, 4), ())


def told_of(run):
    return (run.signs, run.events, run.arrangement, run.sign, run.bill.minutes, run.bill.price, run.ended)


class FollowTest(unittest.TestCase):
    def test_a_run_that_asks(self):
        run = follow(the_case(), BOOK, ())
        self.assertIsInstance(run, Run)
        self.assertEqual(told_of(run), ((), (), START, -1, 0, 0, "asks"))
        self.assertEqual((run.step, run.deeds, run.bill), (0, (), Bill()))
        run = follow(the_case(), BOOK, [0])
        events = (("look", "one", "g", 0), ("swap", "g", 2))
        self.assertEqual(told_of(run), ((0,), events, ((2, 1), (3, 4), (("g", 0),)), 0, 6, 3, "asks"))
        self.assertEqual((run.step, run.deeds), (3, (("swap", "g", 2),)))

    def test_runs_that_end(self):
        run = follow(the_case(), BOOK, (1,))
        self.assertEqual(told_of(run), ((1,), (("look", "one", "g", 1), ("say", "c", 1), ("quit",)), START, 1, 3, 0,
                                        "quit"))
        self.assertEqual((run.step, run.deeds), (8, (("say", "c", 1), ("quit",))))
        run = follow(the_case(), BOOK, (0, 1))
        self.assertEqual((run.ended, run.step, run.events[-2:]), ("done", 5, (("look", "two", "c", 1), ("done",))))
        run = follow(the_case(), BOOK, (0, 0))
        self.assertEqual((run.ended, run.step, run.arrangement), ("quit", 8, ((0, 1), (2, 3, 4), ())))
        self.assertEqual((run.bill, run.events[-2:]), (Bill(12, 0), (("back", "g", 0), ("quit",))))

    def test_lack(self):
        manual = manual_of(("swap", "c"), ("say", "g"), ("swap", "c"), ("done",))
        run = follow(the_case(), manual, ())
        self.assertEqual(told_of(run), ((), (("swap", "c", 3), ("say", "g", 0), ("lack", "c")),
                                        ((0, 3), (2, 4), (("c", 1),)), -1, 5, 10, "lack"))
        self.assertEqual(run.step, 2)

    def test_swap_takes_the_first_that_fits(self):
        run = follow(the_case(), manual_of(("swap", "g"), ("swap", "g"), ("back", "g"), ("back", "c"), ("back", "g")), ())
        self.assertEqual(run.events, (("swap", "g", 2), ("swap", "g", 4), ("back", "g", 2), ("back", "g", 0), ("quit",)))
        self.assertEqual((run.arrangement, run.bill), (((0, 1), (2, 4, 3), ()), Bill(12, 0)))

    def test_prices_of_what_was_not_put_in_here(self):
        case = Case(EXAMPLE, KINDS, (0, 1), (2, 3), ((0,) * 5,), bench=(("g", 4),))
        run = follow(case, manual_of(("back", "g"), ("back", "g")), ())
        self.assertEqual((run.events, run.bill), ((("back", "g", 4), ("quit",)), Bill(3, -3)))

    def test_if_without_a_sign(self):
        run = follow(the_case(), manual_of(("if", (0, 1, 2), (("done",),), (("say", "g"),))), ())
        self.assertEqual(run.events, (("say", "g", 0), ("quit",)))

    def test_what_has_no_step_of_its_own(self):
        body = (("repeat", 3, ()), ("call", "sub"), ("if", (0,), (), ()),
                ("repeat", 2, (("repeat", 2, (("say", "g"), ("leave",), ("done",))), ("say", "c"))))
        run = follow(the_case(), manual_of(*body, sub=()), ())
        self.assertEqual(run.deeds, (("say", "g", 0), ("say", "c", 1)) * 2 + (("quit",),))

    def test_no_place(self):
        case = Case(EMPTY, (), (), (), ((),))
        manual = Manual((("one", ((0,), (1,))),), (("main", (("look", "one", "in"), ("if", (1,), (("done",),), ()))),))
        self.assertEqual([told_of(run) for run in runs_in(case, manual, 0)],
                         [((1,), (("look", "one", "in", 1), ("done",)), ((), (), ()), 1, 3, 0, "done")])
        self.assertEqual((left_by(case, manual, (0,)), left_by(case, manual, (1,))), ((), (0,)))

    def test_signs_that_no_world_can_show(self):
        run = follow(the_case(worlds=((0,) * 5,)), BOOK, (0, 1))
        self.assertEqual((run.ended, run.signs), ("done", (0, 1)))
        self.assertEqual(left_by(the_case(worlds=((0,) * 5,)), BOOK, (0, 1)), ())

    def test_signs_behind_the_end(self):
        run = follow(the_case(), BOOK, (1, 0, 0))
        self.assertEqual((run.signs, run.ended), ((1,), "quit"))
        self.assertEqual(run, follow(the_case(), BOOK, (1,)))

    def test_equal(self):
        runs = [follow(the_case(), BOOK, signs) for signs in ((), (0,), (1,), (0, 0), (0, 1))]
        for at, run in enumerate(runs):
            self.assertEqual([run == other for other in runs], [at == number for number in range(5)])
        told = {"signs": (1,), "events": (), "arrangement": START, "sign": 1, "bill": Bill(1, 2), "step": 3,
                "ended": "quit"}
        for name, other in (("signs", (0,)), ("events", (("quit",),)), ("arrangement", ((1, 0), (2, 3, 4), ())),
                            ("sign", 0),
                            ("bill", Bill(1, 3)), ("step", 4), ("ended", "done")):
            self.assertNotEqual(Run(**told), Run(**{**told, name: other}))
        self.assertEqual(Run(**told), Run(**told))
        self.assertFalse(runs[0] == "asks")

    def test_as_read_for_many(self):
        chance = random.Random(113)
        ends = {}
        for case, manual in many_works(114, 400):
            for _ in range(3):
                signs = [chance.randrange(2) for _ in range(chance.randrange(6))]
                reader = Reader(case, manual, signs)
                run = follow(case, manual, signs)
                self.assertEqual(told_of(run), reader.told())
                self.assertEqual(run.deeds, tuple(event for event in reader.events if event[0] != "look"))
                left = [world for world in range(len(case)) if all(
                    sign in plain_readable(case, world, where, dict(manual.tests)[test], line)
                    for test, line, where, sign in reader.looks)]
                self.assertEqual(left_by(case, manual, signs), tuple(left))
                ends[run.ended] = ends.get(run.ended, 0) + 1
        self.assertGreater(min(ends.values()), 30)
        self.assertEqual(len(ends), 4)

    def test_errors_in_their_order(self):
        case = the_case()
        wide = Manual((("one", ((0, 0),)),), (("main", (("look", "one", "odd"),)),))
        odd = manual_of(("say", "odd"))
        for call in (follow, left_by):
            self.assertEqual(error_of(call, case, wide, None), ("BadTest", "one"))
            self.assertEqual(error_of(call, case, odd, None), ("Unknown", "odd"))
            for signs in (None, 0, "01", {}):
                self.assertEqual(error_of(call, case, BOOK, signs), ("BadSign", -1), signs)
            for sign in (2, -1, True, None, "1", (1,)):
                self.assertEqual(error_of(call, case, BOOK, (0, 1, 0, sign, None)), ("BadSign", 3), sign)
            self.assertEqual(error_of(call, case, BOOK, (1, 2)), ("BadSign", 1))
        still = Case(STILL, ("fixed",), (0,), (), ((0,),))
        self.assertIsNone(error_of(follow, still, manual_of(tests=()), (2,)))


class LeftByTest(unittest.TestCase):
    def test_left(self):
        case = the_case()
        self.assertEqual(left_by(case, BOOK, ()), (0, 1, 2, 3, 4))
        # At the last step of the test g shows 1 if the cell has kept the 1: not if the gate gives 0.
        plain = [world for world in range(5) if 1 in plain_readable(case, world, START, ((1,), (1,)), "g")]
        self.assertEqual(left_by(case, BOOK, [1]), tuple(plain))
        # Signs that are not taken leave all worlds.
        self.assertEqual(left_by(case, BOOK, (1, 0)), tuple(plain))
        self.assertEqual(left_by(case, manual_of(), (0, 1)), (0, 1, 2, 3, 4))


class RunsInTest(unittest.TestCase):
    def test_runs(self):
        self.assertTrue(inspect.isgeneratorfunction(runs_in))
        case = the_case(worlds=((0,) * 5, (2, 0, 0, 0, 0)))
        found = list(runs_in(case, BOOK, 1))
        self.assertEqual([run.signs for run in found], [(0, 0), (1,)])
        self.assertEqual(found, [follow(case, BOOK, run.signs) for run in found])
        looks = manual_of(("repeat", 3, (("look", "two", "g"), ("if", (0,), (("done",),), ()))))
        self.assertEqual([run.signs for run in runs_in(case, looks, 1)], [(0,), (1, 0), (1, 1, 0), (1, 1, 1)])
        self.assertEqual([run.signs for run in runs_in(case, looks, 0)], [(0,)])

    def test_as_read_for_many(self):
        several = 0
        for case, manual in many_works(115, 250):
            for world in range(len(case)):
                found = [told_of(run) for run in runs_in(case, manual, world)]
                self.assertEqual(found, plain_runs(case, manual, world))
                several += len(found) > 1
        self.assertGreater(several, 30)

    def test_ended_rows_of_signs_are_those_that_leave_the_world(self):
        chance = random.Random(116)
        ended = 0
        for case, manual in many_works(117, 250):
            runs = [[run.signs for run in runs_in(case, manual, world)] for world in range(len(case))]
            rows = sorted({signs for told in runs for signs in told})
            rows += [(*signs[:chance.randrange(len(signs))], chance.randrange(2)) for signs in rows if signs]
            for signs in rows:
                run = follow(case, manual, signs)
                left = left_by(case, manual, signs)
                for world in range(len(case)):
                    if run.ended != "asks":
                        self.assertEqual(run.signs in runs[world], world in left)
                        ended += 1
                    # What is asked can be gone on with in just the worlds that are left.
                    goes_on = any(told[:len(run.signs)] == run.signs for told in runs[world])
                    self.assertEqual(goes_on, world in left)
        self.assertGreater(ended, 500)

    def test_errors(self):
        self.assertEqual(error_of(lambda: list(runs_in(the_case(), manual_of(("say", "odd")), 0))), ("Unknown", "odd"))
