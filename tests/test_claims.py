import random
import unittest

from tests.houses import built_house, many_houses, plain_worlds, the_house
from tests.looking import any_claim, plain_breaks, plain_look
from tests.raising import error_of
from tests.test_allowed import WHOLE, lit_house, ways_house
from tinkerhall.allowed import candidates, worlds
from tinkerhall.claims import breaks_claim, decide
from tinkerhall.grounds import grounds
from tinkerhall.lookers import Looker

BAD_CLAIMS = (None, 7, "none", (), ["odd"], ("odd", 0), (None,), (["none"],), ("none", 0), ("broken",), ("broken", 2),
              ("broken", -1), ("broken", True), ("broken", "0"), ("broken", 0, 0), ("whole", None), ("whole", 2),
              ("breaks",), ("breaks", 0), ("breaks", 5), ("breaks", True), ("breaks", 1, 1), ("never",), ("never", ()),
              ("never", 0), ("never", ((0, 1), (0, 2))), ("never", ((0, 3),)), ("never", ((2, 0),)), ("never", ((0,),)),
              ("never", ((0, -1),)), ("never", ((False, 1),)), ("never", ((0, True),)), ("never", ((0, 1), None)),
              ("never", "ab"), ("never", ((0, 1, 1),)), ("never", ((0, "1"),)), ("never", {}), {})


class BreaksClaimTest(unittest.TestCase):
    def test_each_word(self):
        house = lit_house(most=2)
        for world, claims in (
                ((WHOLE, WHOLE), [("broken", 0), ("breaks", 1), ("breaks", 4), ("none",), ("never", ((0, 0), (1, 0)))]),
                (((1, 2), WHOLE), [("whole", 0), ("broken", 1), ("none",), ("breaks", 2), ("never", ((0, 1),))]),
                (((2, 0), (1, 1)), [("whole", 0), ("whole", 1), ("none",), ("breaks", 3), ("never", ((1, 1), (0, 2)))])):
            for claim in claims:
                self.assertIs(breaks_claim(house, world, claim), True, claim)
                self.assertIs(breaks_claim(house, [list(state) for state in world], claim), True, claim)
        for claim in (("broken", 0), ("broken", 1), ("breaks", 1), ("breaks", 2), ("never", ((0, 1), (1, 1))),
                      ["never", [[0, 2], [1, 0]]]):
            self.assertIs(breaks_claim(house, ((2, 0), (1, 1)), claim), False, claim)
        # Whether the world keeps the news is not asked, nor how many breaks it has.
        house.enter(("told", 5, "one", 0, 0))
        self.assertIs(breaks_claim(lit_house(most=0), ((1, 0), (1, 1)), ("breaks", 3)), True)
        self.assertIs(breaks_claim(house, ((1, 0), (1, 1)), ("whole", 1)), True)

    def test_bad_claims(self):
        house = lit_house(most=2)
        for claim in BAD_CLAIMS:
            for call in (lambda told: breaks_claim(house, (WHOLE, WHOLE), told), lambda told: decide(house, told, limit=9),
                         lambda told: Looker(house, told, limit=9), lambda told: grounds(house, told)):
                self.assertEqual(error_of(call, claim), ("BadClaim", claim), claim)
        for claim in (["none"], ["breaks", 4], ["never", [[1, 2], [0, 0]]], ("whole", 1)):
            self.assertIsNone(error_of(decide, house, claim))

    def test_a_house_without_parts(self):
        house = the_house()
        self.assertIs(breaks_claim(house, (), ("breaks", 1)), True)
        self.assertEqual(decide(house, ("none",)), ("world", ()))
        self.assertEqual(decide(house, ("breaks", 1)), ("world", ()))
        self.assertEqual(error_of(decide, house, ("whole", 0)), ("BadClaim", ("whole", 0)))


class DecideTest(unittest.TestCase):
    def test_a_world(self):
        house = lit_house(most=2)
        house.enter(("told", 5, "one", 1, 2))
        self.assertEqual(decide(house, ("none",)), ("world", (WHOLE, (1, 1))))
        self.assertEqual(decide(house, ("broken", 1)), ("world", ((1, 0), WHOLE)))
        self.assertEqual(decide(house, ["never", [[0, 2], [1, 1]]]), ("world", ((2, 0), (1, 1))))

    def test_a_paper(self):
        house = lit_house(most=2)
        house.enter(("told", 5, "one", 1, 2))
        for claim, limit in ((("breaks", 1), None), (("none",), 0), (("never", ((0, 2), (1, 1))), 1)):
            word, paper = decide(house, claim, limit=limit)
            self.assertEqual((word, Looker(house, claim, limit=limit)(paper)), ("paper", None))
            self.assertIsNone(plain_look(house, claim, 2 if limit is None else limit, paper))

    def test_a_part_that_cannot_break(self):
        house = the_house()
        house.enter(("come", "cold", "one"))
        word, paper = decide(house, ("whole", 0))
        self.assertEqual((word, plain_look(house, ("whole", 0), 1, paper)), ("paper", None))

    def test_what_is_not_left_is_not_told(self):
        # No NoWorld here: every claim holds where no world is left.
        house = lit_house()
        house.enter(("told", 5, "odd", 1, 1))
        for claim in (("none",), ("broken", 0), ("whole", 0), ("breaks", 4), ("never", ((1, 0),))):
            word, paper = decide(house, claim)
            self.assertEqual((word, Looker(house, claim)(paper)), ("paper", None))

    def test_as_told_for_many_houses(self):
        chance = random.Random(96)
        told = {"paper": 0, "world": 0}
        deep = 0
        for house in many_houses(97, 160):
            if candidates(house) > 400:
                continue
            left = plain_worlds(house, house.now)
            for _ in range(4):
                claim = any_claim(chance, house)
                limit = chance.choice((None, *range(house.most + 1)))
                most = house.most if limit is None else limit
                breaking = [world for world in left if plain_breaks(house, world, claim)
                            and sum(state != WHOLE for state in world) <= most]
                word, found = decide(house, claim, limit=limit)
                told[word] += 1
                if breaking:
                    self.assertEqual((word, found), ("world", breaking[0]))
                else:
                    self.assertEqual((word, plain_look(house, claim, most, found)), ("paper", None))
                    deep += found[0] == "part"
        self.assertGreater(min(told.values()), 100)
        self.assertGreater(deep, 40)

    def test_a_large_house(self):
        house = ways_house(10, 6, 2)
        house.enter(("told", 10, "one", 1, 1), ("told", 10, "one", 2, 3))
        word, paper = decide(house, ("none",))
        self.assertEqual((word, Looker(house, ("none",))(paper)), ("paper", None))
        self.assertEqual(decide(house.upto(11), ("breaks", 2))[0], "world")

    def test_errors_in_their_order(self):
        house = lit_house(most=2)
        for limit in (-1, 3, True, "1", (), 10 ** 39):
            self.assertEqual(error_of(decide, house, ("none",), limit=limit), ("BadLimit", limit))
            self.assertEqual(error_of(Looker, house, ("none",), limit=limit), ("BadLimit", limit))
        many = ways_house(5, 6, 3)
        self.assertEqual(error_of(decide, many, ("broken", 5), limit=4), ("BadClaim", ("broken", 5)))
        self.assertEqual(error_of(decide, many, ("broken", 4), limit=4), ("BadLimit", 4))
        # The number of candidates hangs on `most` alone.
        self.assertEqual(error_of(decide, many, ("broken", 4), limit=0), ("TooMany", "world"))
        self.assertEqual(error_of(decide, many, ("breaks", 1)), ("TooMany", "world"))
        self.assertEqual(len(worlds(built_house())), candidates(built_house()))
