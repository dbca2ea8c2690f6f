import random
import unittest

from tests.houses import built_house, many_houses, the_house
from tests.looking import any_claim, any_paper, plain_barred, plain_look, plain_lots
from tests.houses import plain_floors
from tests.raising import error_of
from tests.test_allowed import WHOLE, lit_house, ways_house
from tinkerhall.allowed import candidates, states
from tinkerhall.claims import decide
from tinkerhall.lookers import Looker
from tinkerhall.news import news_with
from tinkerhall.trials import Trial

MANY = ("many",)


class LotsTest(unittest.TestCase):
    def test_first_lots(self):
        house = lit_house(most=2)
        both = (states(house, 0), states(house, 1))
        self.assertEqual(Looker(house, ("none",)).first_lots(), both)
        self.assertEqual(Looker(house, ("breaks", 1)).first_lots(), both)
        self.assertEqual(Looker(house, ("broken", 0)).first_lots(), ((WHOLE,), both[1]))
        self.assertEqual(Looker(house, ("whole", 1)).first_lots(), (both[0], both[1][1:]))
        self.assertEqual(Looker(house, ["never", [[1, 2], [0, 0]]]).first_lots(), ((WHOLE,), ((2, 1), (2, 2))))
        self.assertEqual(Looker(the_house(), ("none",)).first_lots(), ())
        bare = the_house()
        bare.enter(("come", "cold", "one"))
        self.assertEqual(Looker(bare, ("whole", 0)).first_lots(), ((),))

    def test_attributes(self):
        house = lit_house(most=2)
        looker = Looker(house, ["never", [[1, 2]]], limit=0)
        self.assertIs(looker.house, house)
        self.assertEqual((looker.claim, looker.limit), (("never", ((1, 2),)), 0))
        self.assertEqual((Looker(house, ("breaks", 1)).limit, Looker(house, ("breaks", 1), limit=1).limit), (2, 1))


class LookerTest(unittest.TestCase):
    def test_many(self):
        house = lit_house(most=2)
        self.assertEqual(Looker(house, ("none",), limit=0)(MANY), ())
        self.assertIsNone(Looker(house, ("whole", 0), limit=0)(MANY))
        self.assertIsNone(Looker(house, ("whole", 0), limit=0)(["many"]))
        self.assertEqual(Looker(house, ("whole", 0), limit=1)(MANY), ())
        self.assertIsNone(Looker(house, ("never", ((0, 1), (1, 2))), limit=1)(MANY))
        self.assertEqual(Looker(house, ("never", ((0, 1), (1, 0))), limit=1)(MANY), ())
        # For `breaks` the limit is at most n - 1.
        both = ("part", 0, (MANY,) * 7)
        self.assertEqual(Looker(house, ("breaks", 1))(both), (0,))
        self.assertEqual(Looker(house, ("breaks", 2))(("part", 0, (MANY, *both[2][1:]))), (0,))

    def test_an_empty_lot(self):
        house = the_house()
        house.enter(("come", "cold", "one"), ("come", "gate", "one"))
        looker = Looker(house, ("whole", 0))
        self.assertIsNone(looker(("part", 0, ())))
        self.assertEqual(looker(("part", 0, (MANY,))), ())
        # It lacks the whole state, so it counts among the broken ones.
        self.assertEqual((looker(MANY), Looker(house, ("whole", 0), limit=0)(MANY)), ((), None))
        # With an empty lot there is no way to act, and too many are surely broken, and too few can be.
        house.enter(("come", "cell", "two"), ("build", "m", "loop", (1, 0)), ("seen", 4, "m", ((0,),), ((0, "in", 0),)),
                    ("told", 4, "one", 0, 0), ("told", 4, "one", 1, 2), ("told", 4, "one", 2, 2))
        looker = Looker(house, ("whole", 0))
        self.assertEqual([looker(("news", number)) for number in range(4, 8)], [None, None, (), None])

    def test_told(self):
        house = lit_house(most=2)
        house.enter(("told", 5, "one", 1, 1), ("told", 4, "one", 0, 0), ("told", 1, "one", 1, 1))
        looker = Looker(house, ("whole", 0))
        # Lamp 0 is surely broken today, but perhaps not yet on day 1.
        self.assertEqual([looker(("news", number)) for number in (5, 6, 7)], [(), (), ()])
        looker = Looker(house, ("never", ((0, 0),)))
        self.assertEqual([looker(("news", number)) for number in (5, 6, 7)], [(), (), None])
        looker = Looker(house, ("never", ((0, 1), (1, 1))))
        self.assertEqual([looker(("news", number)) for number in (5, 6, 7)], [None, (), ()])

    def test_seen(self):
        house = lit_house(most=2)
        house.enter(("seen", 5, "m", ((), ()), ((0, "p", 0), (1, "p", 1))), ("seen", 2, "m", ((),), ((0, "p", 0),)))
        self.assertIsNone(Looker(house, ("never", ((0, 0),)))(("news", 5)))
        # Each step is free: a lamp of unknown state can be dark at the first step, and give light at the second one.
        self.assertEqual(Looker(house, ("none",))(("news", 5)), ())
        # In its two ways, dark and blinking, it can do so, too; only the dark way alone cannot.
        looker = Looker(house, ("whole", 0))
        self.assertEqual(looker(("news", 5)), ())
        split = ("part", 0, (("news", 5),) * 6)
        self.assertEqual(looker(split), (3,))
        self.assertIsNone(Looker(house, ("never", ((0, 1),)))(("news", 5)))

    def test_ways_to_wrong_papers(self):
        house = lit_house(most=2)
        house.enter(("told", 5, "one", 0, 0))
        looker = Looker(house, ("none",))
        wrong = ("part", 0, (("news", 5),) * 7)
        self.assertEqual(looker(wrong), (0,))
        inner = ("part", 1, (("news", 4), *(("news", 5),) * 4))
        self.assertEqual(looker(("part", 0, (inner, *(("news", 5),) * 6))), (0, 0))
        inner = ("part", 1, (("part", 1, (("part", 0, (MANY,)),)), *(("news", 5),) * 4))
        self.assertEqual(looker(("part", 0, (inner, *(("news", 5),) * 6))), (0, 0, 0, 0))
        # The second paper is wrong itself, the third one, too: the first one in order is told.
        self.assertEqual(Looker(house, ("whole", 0))(("part", 0, (("news", 5), MANY, None, *(("news", 5),) * 3))), (1,))
        self.assertEqual(Looker(house, ("whole", 0))(("part", 0, (("news", 5),) * 5)), ())
        self.assertIsNone(Looker(house, ("whole", 0))(["part", 0, [["news", 5]] * 6]))

    def test_what_is_no_paper(self):
        house = lit_house()
        house.enter(("told", 5, "odd", 1, 1), ("told", 5, "odd", 1, 1), ("strike", 6))
        looker = Looker(house, ("none",))
        self.assertIsNone(looker(("news", 5)))
        for paper in (None, 7, "many", (), [], ("odd",), ("many", 0), ("news",), ("news", 0), ("news", 6), ("news", 7),
                      ("news", 8), ("news", -1), ("news", True), ("news", "5"), ("news", None), ("news", (5,)),
                      ("news", 5, 5), ("part",), ("part", 0), ("part", 2, ()), ("part", True, (("news", 5),) * 5),
                      ("part", -1, (("news", 5),) * 5), ("part", 0, None), ("part", 0, "abcdefg"), ("part", 0, 7),
                      ("part", 0, (("news", 5),) * 7, 0), (None, 0), (("many",),), {}, ("part", [0], ())):
            self.assertEqual(looker(paper), (), paper)
            self.assertEqual(looker(("part", 0, (paper, *(("news", 5),) * 6))), (0,), paper)

    def test_forms_that_nearly_are_right_papers(self):
        house = the_house()
        house.enter(("told", 0, "odd", 1, 1), ("told", 0, "odd", 1, 1), ("come", "gate", "one"))
        looker = Looker(house, ("broken", 0), limit=0)
        for paper in (("news", True), ("news", False), ("news", [1]), ("news", 1, 1), ("odd", 0, (("news", 1),)),
                      ("part", False, (("news", 1),)), ("part", 0, (("news", 1),), 0), ("part", -1, (("news", 1),))):
            self.assertEqual(looker(paper), (), paper)
        self.assertIsNone(looker(("part", 0, (("news", 1),))))
        looker = Looker(house, ("whole", 0), limit=0)
        self.assertEqual((looker(("many",)), looker(("many", 0)), looker(("many", ()))), (None, (), ()))

    def test_the_house_as_it_is_when_called(self):
        house = lit_house()
        looker = Looker(house, ("none",))
        self.assertEqual(looker(("news", 5)), ())
        with Trial(house):
            house.enter(("told", 5, "odd", 1, 1))
            self.assertIsNone(looker(("news", 5)))
            house.enter(("day",), ("strike", 5))
            self.assertEqual(looker(("news", 5)), ())
            self.assertEqual(len(looker.first_lots()[0]), 9)
        self.assertEqual((looker(("news", 5)), len(looker.first_lots()[0])), ((), 7))

    def test_a_paper_forty_deep(self):
        house = lit_house()
        house.enter(("told", 5, "odd", 1, 1))
        looker = Looker(house, ("never", ((0, 0),)))
        paper, wrong = ("news", 5), MANY
        for _ in range(45):
            paper, wrong = ("part", 0, (paper,)), ["part", 0, [wrong]]
        self.assertIsNone(looker(paper))
        self.assertEqual(looker(wrong), (0,) * 45)

    def test_as_told_for_many_papers(self):
        chance = random.Random(98)
        right = 0
        ways = set()
        for house in many_houses(99, 120):
            for _ in range(20):
                claim = any_claim(chance, house)
                limit = chance.randrange(house.most + 1)
                paper = any_paper(chance, house, chance.choice((0, 1, 2)))
                found = Looker(house, claim, limit=limit)(paper)
                self.assertEqual(found, plain_look(house, claim, limit, paper))
                right += found is None
                ways.add(found)
        self.assertGreater(right, 60)
        self.assertGreater(len(ways), 5)

    def test_changed_papers_of_many_houses(self):
        chance = random.Random(100)
        changed = 0
        for house in many_houses(101, 250):
            if candidates(house) > 400:
                continue
            for _ in range(8):
                claim = any_claim(chance, house)
                word, paper = decide(house, claim)
                if word == "paper" and paper[0] == "part" and paper[2]:
                    at = chance.randrange(len(paper[2]))
                    other = (*paper[2][:at], any_paper(chance, house, 1), *paper[2][at + 1:])
                    told = ("part", paper[1], other)
                    self.assertEqual(Looker(house, claim)(told), plain_look(house, claim, house.most, told))
                    changed += 1
        self.assertGreater(changed, 20, changed)

    def test_lots_and_bars_of_many_houses(self):
        chance = random.Random(102)
        told = {True: 0, False: 0}
        for house in many_houses(103, 160, most=(2, 3)):
            claim = any_claim(chance, house)
            self.assertEqual(Looker(house, claim).first_lots(), plain_lots(house, claim))
            for entry in list(house.book):
                if entry[0] == "seen" and house.now < 60:
                    # What was not seen is barred more often.
                    sights = tuple((step, line, 1 - sign) for step, line, sign in entry[4])
                    house.enter(("seen", *entry[1:4], sights))
            floors = plain_floors(house)
            for number, entry in enumerate(house.book):
                if entry[0] in ("seen", "told"):
                    lots = tuple(tuple(sorted(chance.sample(lot, min(len(lot), chance.choice((0, 1, 1, 1, 1, 1, 2, 9))))))
                                 for lot in plain_lots(house, ("none",)))
                    barred = news_with(house, number).barred(lots)
                    self.assertIs(barred, plain_barred(house, floors, lots, entry))
                    told[barred] += entry[0] == "seen" and () not in lots
        self.assertGreater(min(told.values()), 60)

    def test_errors(self):
        self.assertEqual(error_of(Looker, built_house(), ("broken", 6), limit=7), ("BadClaim", ("broken", 6)))
        # A looker does not ask how many worlds there are.
        self.assertIsNone(error_of(Looker(ways_house(5, 6, 3), ("none",)), MANY))
