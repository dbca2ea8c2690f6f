import itertools
import random
import unittest

from tests.houses import many_houses, plain_candidates, plain_floors, plain_in_force, plain_keeps, the_house
from tests.looking import any_claim, plain_breaks
from tests.raising import error_of
from tests.test_allowed import lit_house, ways_house
from tinkerhall.allowed import candidates
from tinkerhall.claims import decide
from tinkerhall.grounds import grounds, quarrels


def plain_grounds(house, claim):
    floors = plain_floors(house)
    force = plain_in_force(house.book, house.now)
    breaking = [world for world in plain_candidates(house, floors[-1]) if plain_breaks(house, world, claim)]
    kept = [{number for number in force if plain_keeps(house, floors, world, house.book[number])} for world in breaking]
    holding = [set(lot) for many in range(len(force) + 1) for lot in itertools.combinations(force, many)
               if not any(set(lot) <= keeps for keeps in kept)]
    return tuple(tuple(sorted(lot)) for lot in holding if not any(lot - {number} in holding for number in lot))


class GroundsTest(unittest.TestCase):
    def test_what_is_told(self):
        house = lit_house(most=2)
        # Lamp 0 is dark on day 0; at least one of both is broken; both are.
        house.enter(("seen", 2, "m", ((),), ((0, "p", 0),)), ("told", 5, "one", 1, 2), ("told", 5, "one", 2, 2))
        self.assertEqual(grounds(house, ("broken", 0)), ((5,), (7,)))
        self.assertEqual(grounds(house, ["breaks", 1]), ((5,), (6,), (7,)))
        self.assertEqual(grounds(house, ("breaks", 2)), ((7,),))
        self.assertEqual(grounds(house, ("whole", 1)), ())
        self.assertEqual(grounds(house, ("breaks", 3)), ())
        self.assertEqual(quarrels(house), ())
        house.enter(("told", 5, "one", 0, 1), ("told", 2, "one", 0, 0))
        self.assertEqual(quarrels(house), ((5, 9), (7, 8)))
        self.assertEqual(grounds(house, ("breaks", 3)), quarrels(house))
        # What is struck is no ground.
        house.enter(("strike", 7))
        self.assertEqual(quarrels(house), ((5, 9),))
        self.assertEqual(grounds(house, ("broken", 0)), ((5,),))

    def test_without_any_news(self):
        house = lit_house(most=1)
        self.assertEqual(grounds(house, ("never", ((0, 1), (1, 1)))), ((),))
        house.enter(("told", 5, "odd", 1, 1))
        self.assertEqual(grounds(house, ("never", ((0, 1), (1, 1)))), ((),))
        self.assertEqual(quarrels(house), ((5,),))
        self.assertEqual((quarrels(the_house()), grounds(the_house(), ("breaks", 1))), ((), ()))

    def test_grounds_of_several_news(self):
        house = lit_house(most=2)
        house.enter(("told", 4, "one", 1, 1), ("told", 5, "one", 1, 1), ("seen", 5, "m", ((),), ((0, "p", 0),)),
                    ("seen", 2, "m", ((),), ((0, "p", 0),)))
        self.assertEqual(grounds(house, ("whole", 1)), plain_grounds(house, ("whole", 1)))
        self.assertIn((6, 7), grounds(house, ("whole", 1)))

    def test_as_told_for_many_houses(self):
        chance = random.Random(104)
        sizes = set()
        holds = 0
        for house in many_houses(105, 200):
            if candidates(house) > 400 or len(house.in_force()) > 8:
                continue
            self.assertEqual(quarrels(house), plain_grounds(house, ("none",)))
            for _ in range(3):
                claim = any_claim(chance, house)
                found = grounds(house, claim)
                self.assertEqual(found, plain_grounds(house, claim))
                self.assertIs(found != (), decide(house, claim)[0] == "paper")
                sizes |= {len(lot) for lot in found}
                holds += len(found) > 1
        self.assertLessEqual({0, 1, 2}, sizes)
        self.assertGreater(holds, 5)

    def test_eight_and_nine_news(self):
        house = lit_house()
        house.enter(*[("told", 5, "one", 1, 2)] * 8)
        self.assertEqual(grounds(house, ("breaks", 1)), tuple((number,) for number in range(5, 13)))
        house.enter(("told", 5, "one", 0, 2))
        self.assertEqual(error_of(grounds, house, ("breaks", 1)), ("TooMany", "news"))
        self.assertEqual(error_of(quarrels, house), ("TooMany", "news"))
        house.enter(("strike", 5))
        self.assertEqual(len(grounds(house, ("breaks", 1))), 7)

    def test_errors_in_their_order(self):
        house = ways_house(5, 6, 3)
        house.enter(*[("told", 5, "one", 1, 2)] * 9)
        self.assertEqual(error_of(grounds, house, ("broken", 5)), ("BadClaim", ("broken", 5)))
        self.assertEqual(error_of(grounds, house, ("broken", 4)), ("TooMany", "news"))
        house.enter(("strike", 5))
        self.assertEqual(error_of(grounds, house, ("broken", 4)), ("TooMany", "world"))
        self.assertEqual(error_of(quarrels, house), ("TooMany", "world"))
