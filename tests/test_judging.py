import random
import unittest

from tests.judged import Judge
from tests.raising import error_of
from tests.repairs import (BOOK, FLASH, any_manual, as_lists, lamp_case, manual_of, many_rich_works, many_wire_works,
                           many_works,
                           the_case, wide_manual)
from tests.samples import EMPTY, EXAMPLE
from tinkerhall.cases import Case
from tinkerhall.judging import followers, standings_of, takes
from tinkerhall.leaning import leaned
from tinkerhall.manalike import manuals_alike, outcomes
from tinkerhall.manuals import Manual
from tinkerhall.runs import follow, left_by, runs_in
from tinkerhall.totals import bills, most_minutes, needs
from tinkerhall.verdicts import Verdict, judge_table

START = ((0, 1), (2, 3, 4), ())


class StandingsTest(unittest.TestCase):
    def test_in_order(self):
        case = the_case(worlds=((0,) * 5, (2, 0, 0, 0, 0), (1, 0, 0, 0, 0)))
        # The gate is high now and then in the last world, low in the one ahead of it.
        manual = manual_of(("look", "one", "g"), ("if", (1,), (("say", "g"), ("done",)),
                                                  (("swap", "g"), ("look", "two", "g"))))
        swapped = ((2, 1), (3, 4), (("g", 0),))
        self.assertEqual(case.worlds, ((0,) * 5, (1, 0, 0, 0, 0), (2, 0, 0, 0, 0)))
        self.assertEqual(standings_of(case, manual), (
            (0, START, -1, (0, 1, 2)), (1, START, 0, (0, 1, 2)), (1, START, 1, (2,)), (4, START, 0, (0, 1, 2)),
            (2, START, 1, (2,)), (5, swapped, 0, (0, 1, 2)), (3, START, 1, (2,)), (6, swapped, 0, (0, 1, 2))))
        self.assertEqual(followers(case, manual, (0, START, -1, (0, 1, 2))),
                         ((1, START, 0, (0, 1, 2)), (1, START, 1, (2,))))
        self.assertEqual([takes(case, manual, told) for told in standings_of(case, manual)], [3, 0, 0, 3, 0, 3, 0, 0])

    def test_no_step_but_quit(self):
        case = Case(EMPTY, (), (), (), ((),))
        self.assertEqual(standings_of(case, manual_of()), ((0, ((), (), ()), -1, (0,)),))
        self.assertEqual((followers(case, manual_of(), (0, ((), (), ()), -1, (0,))),
                          takes(case, manual_of(), (0, ((), (), ()), 1, ()))),
                         ((), 0))

    def test_equal_standings_are_told_once(self):
        manual = manual_of(("look", "one", "in"), ("if", (1,), (("say", "g"),), (("say", "c"),)), ("say", "g"))
        self.assertEqual([told[0] for told in standings_of(the_case(), manual)], [0, 1, 2, 4, 5])
        case = lamp_case(0)
        both = Manual(FLASH, (("main", (("look", "now", "b"), ("if", (1,), (("say", "b"),), ()), ("look", "now", "b"))),))
        self.assertEqual(standings_of(case, both), tuple(
            (at, ((0, 1), (), ()), sign, (0,)) for at, sign in ((0, -1), (1, 0), (1, 1), (3, 0), (2, 1), (4, 0), (4, 1),
                                                                (3, 1))))

    def test_as_told_for_many(self):
        standings = 0
        for case, manual in (*many_works(301, 300), *many_rich_works(300, 300), *many_wire_works(301, 200)):
            judge = Judge(case, manual)
            found = standings_of(case, manual)
            self.assertEqual(found, judge.standings())
            for standing in found:
                self.assertEqual(followers(case, manual, standing), judge.followers(standing))
                self.assertEqual(takes(case, manual, standing), judge.takes(standing))
            standings += len(found)
        self.assertGreater(standings, 2500)

    def test_standings_that_are_not_reached(self):
        chance = random.Random(302)
        for case, manual in many_works(303, 300):
            judge = Judge(case, manual)
            arrangement = case.arrangement
            for _ in range(6):
                place = chance.choice([place[0] for place in case.plan.places] or [None])
                if place is not None:
                    arrangement = chance.choice((case.swapped, case.put_back))(place, arrangement) or arrangement
                left = tuple(world for world in range(len(case)) if chance.random() < 0.6)
                standing = (chance.randrange(len(judge.flow)), arrangement, chance.randrange(-1, 2), left)
                self.assertEqual(followers(case, manual, standing), judge.followers(standing))
                self.assertEqual(followers(case, manual, as_lists(standing)), judge.followers(standing))
                self.assertEqual(takes(case, manual, standing), judge.takes(standing))
                self.assertEqual(takes(case, manual, as_lists(standing)), judge.takes(standing))

    def test_what_steps_take(self):
        case = the_case()
        manual = manual_of(("back", "g"), ("swap", "c"), ("look", "two", "c"), ("say", "c"), ("if", (0,), (("done",),), ()))
        # A back that does nothing, and a swap that lacks a part.
        self.assertEqual(takes(case, manual, (0, START, -1, (0,))), 0)
        self.assertEqual(takes(case, manual, (0, ((2, 1), (), (("g", 0),)), -1, (0,))), 3)
        self.assertEqual(takes(case, manual, (1, START, -1, (0,))), 5)
        self.assertEqual(takes(case, manual, (1, ((0, 3), (2, 4), ()), -1, (0,))), 0)
        self.assertEqual(followers(case, manual, (1, ((0, 3), (2, 4), ()), -1, (0,))), ())
        self.assertEqual([takes(case, manual, (at, START, 1, (0,))) for at in (2, 3, 4, 5, 6)], [3, 0, 0, 0, 0])

    def test_4000_standings_and_4001(self):
        case = lamp_case()
        self.assertEqual(len(standings_of(case, wide_manual(11))), 4000)
        one_more = wide_manual(12)
        for call in (standings_of, bills, most_minutes, needs, leaned):
            self.assertEqual(error_of(call, case, one_more), ("TooMany", "standing"), call)
        self.assertEqual(error_of(Verdict, case, one_more, 10000), ("TooMany", "standing"))
        self.assertEqual(error_of(outcomes, case, one_more, 0), ("TooMany", "standing"))
        self.assertEqual(error_of(manuals_alike, case, BOOK_OF_LAMPS, one_more), ("TooMany", "standing"))
        self.assertEqual(error_of(manuals_alike, case, one_more, BOOK_OF_LAMPS), ("TooMany", "standing"))
        for call in (standings_of, bills, most_minutes, needs):
            self.assertIsNone(error_of(call, case, wide_manual(11)))
        self.assertIsNone(error_of(Verdict, case, wide_manual(11), 10000))
        # These do not go through all standings.
        start = (0, case.arrangement, -1, (0,))
        for call in (follow, left_by):
            self.assertIsNone(error_of(call, case, one_more, (0, 1)))
        self.assertIsNone(error_of(followers, case, one_more, start))
        self.assertIsNone(error_of(takes, case, one_more, start))
        self.assertIsNone(error_of(judge_table, case, one_more, 5, ((*start, 0),)))

    def test_errors_of_all_that_take_a_case_and_a_manual(self):
        case = the_case()
        wide = Manual((("one", ((0,),)), ("two", ((0, 0),)), ("three", ((2,),))), (("main", (("look", "one", "odd"),)),))
        odd = manual_of(("say", "g"), ("look", "one", "odd"), ("swap", "in"))
        place = manual_of(("say", "g"), sub=(("back", "in"), ("look", "one", "odd")))
        calls = {"standings_of": lambda manual: standings_of(case, manual),
                 "followers": lambda manual: followers(case, manual, None),
                 "takes": lambda manual: takes(case, manual, None), "Verdict": lambda manual: Verdict(case, manual, None),
                 "judge_table": lambda manual: judge_table(case, manual, 5, None),
                 "bills": lambda manual: bills(case, manual),
                 "most_minutes": lambda manual: most_minutes(case, manual), "needs": lambda manual: needs(case, manual),
                 "leaned": lambda manual: leaned(case, manual), "outcomes": lambda manual: outcomes(case, manual, 0),
                 "first": lambda manual: manuals_alike(case, manual, wide),
                 "follow": lambda manual: follow(case, manual, None),
                 "second": lambda manual: manuals_alike(case, BOOK, manual),
                 "left_by": lambda manual: left_by(case, manual, None),
                 "runs_in": lambda manual: list(runs_in(case, manual, 0)), "called": lambda manual: manual(case, None)}
        for name, call in calls.items():
            self.assertEqual(error_of(call, wide), ("BadTest", "two"), name)
            self.assertEqual(error_of(call, odd), ("Unknown", "odd"), name)
            self.assertEqual(error_of(call, place), ("Unknown", "in"), name)

    def test_unused_tests_and_chapters_count(self):
        case = the_case()
        self.assertEqual(error_of(standings_of, case, Manual((("one", ((),)),), (("main", ()),))), ("BadTest", "one"))
        self.assertEqual(error_of(standings_of, case, manual_of(sub=(("swap", "odd"),))), ("Unknown", "odd"))
        self.assertIsNone(error_of(standings_of, case, any_manual(random.Random(1), EXAMPLE)))


BOOK_OF_LAMPS = Manual(FLASH, (("main", (("look", "now", "b"),)),))
