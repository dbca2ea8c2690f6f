import random
import unittest

from tests.houses import condition, plain_floors, plain_worlds
from tests.raising import error_of
from tests.working import many_wire_houses, ways_house, wire_house
from tinkerhall.payers import payer, payer_in

WHOLE = (0, 0)
TERMS = (("maker", "pass", 0), ("dealer", "any", 1), ("insurer", "cell", 9))


def day_house():
    """The parts of the wire came on day 0, three passes on day 1; it is day 3."""
    house = wire_house()
    house.enter(("day",), ("come", "pass", "late"), ("day",), ("day",))
    return house


def world_with(**told):
    return tuple(told.get(f"p{part}", WHOLE) for part in range(6))


def plain_payer(house, terms, part, world):
    day, kinds, _, came, _, _, _, _ = plain_floors(house)[-1]
    if condition(world[part], day) == 0:
        return "house"
    for name, kind, days in terms:
        if kind in (kinds[part], "any") and days >= world[part][1] - came[part]:
            return name
    return "customer"


class PayerInTest(unittest.TestCase):
    def test_payers(self):
        house = day_house()
        for state, wanted in ((WHOLE, "house"), ((1, 0), "maker"), ((3, 1), "dealer"), ((1, 2), "customer"),
                              ((2, 3), "customer")):
            self.assertEqual(payer_in(house, TERMS, 0, world_with(p0=state)), wanted)
        # Days count from the one on which the part came.
        for state, wanted in (((1, 1), "maker"), ((1, 2), "dealer"), ((1, 3), "customer")):
            self.assertEqual(payer_in(house, TERMS, 5, world_with(p5=state)), wanted)
        for state, wanted in (((1, 0), "dealer"), ((2, 1), "dealer"), ((1, 2), "insurer"), ((2, 3), "insurer")):
            self.assertEqual(payer_in(house, TERMS, 1, world_with(p1=state)), wanted)
            self.assertEqual(payer_in(house, TERMS, 2, world_with(p1=state)), "house")

    def test_the_first_clause_counts(self):
        house = day_house()
        world = world_with(p0=(1, 0))
        self.assertEqual(payer_in(house, (("a", "any", 0), ("b", "pass", 0)), 0, world), "a")
        self.assertEqual(payer_in(house, (("a", "cell", 9), ("b", "pass", 0)), 0, world), "b")
        self.assertEqual(payer_in(house, (), 0, world), "customer")
        self.assertEqual(payer_in(house, (), 0, world_with()), "house")

    def test_worlds_that_do_not_keep_the_news(self):
        house = day_house()
        house.enter(("told", 10, "old", 0, 0))
        self.assertEqual(payer_in(house, TERMS, 0, world_with(p0=(1, 0), p1=(1, 0), p2=(1, 0))), "maker")
        self.assertEqual(payer_in(house, [list(clause) for clause in TERMS], 0,
                                  [list(state) for state in world_with(p0=(1, 1))]), "dealer")

    def test_bad_terms(self):
        house = day_house()
        clause = TERMS[0]
        for terms in (None, 7, "ab", {}, (clause,) * 7, [clause, None, None, None, None, None, None]):
            for call in (lambda told: payer_in(house, told, 99, None), lambda told: payer(house, told, 99)):
                self.assertEqual(error_of(call, terms), ("BadTerms", -1))
        for bad in (None, (), "abc", ("maker", "pass"), ("maker", "pass", 0, 0), ("Maker", "pass", 0), ("house", "pass", 0),
                    ("customer", "any", 0), ("any", "any", 0), (7, "any", 0), ("maker", "odd", 0), ("maker", "old", 0),
                    ("maker", None, 0),
                    ("maker", ["any"], 0), ("maker", "house", 0), ("maker", "any", -1), ("maker", "any", 10),
                    ("maker", "any", True),
                    ("maker", "any", "1"), ("maker", "any", None), (["maker"], "any", 0)):
            for call in (lambda told: payer_in(house, told, 99, None), lambda told: payer(house, told, 99)):
                self.assertEqual(error_of(call, (clause, bad, None)), ("BadTerms", 1), bad)
                self.assertEqual(error_of(call, [bad]), ("BadTerms", 0), bad)
        self.assertIsNone(error_of(payer, house, (clause,) * 6, 0))
        self.assertIsNone(error_of(payer, house, (("maker", "any", 9), ("maker", "turner", 0)), 0))

    def test_errors_in_their_order(self):
        house = day_house()
        house.enter(("told", 6, "old", 1, 1), ("told", 6, "old", 0, 0))
        for part in (-1, 6, True, "0", None, (0,)):
            self.assertEqual(error_of(payer_in, house, TERMS, part, None), ("NoPart", part))
            self.assertEqual(error_of(payer, house, TERMS, part), ("NoPart", part))
            self.assertEqual(error_of(payer, house, (7,), part), ("BadTerms", 0))
        self.assertEqual(error_of(payer, house, TERMS, 0), ("NoWorld", 12))
        self.assertEqual(payer_in(house, TERMS, 0, world_with(p0=(1, 1))), "dealer")
        house = ways_house((2, 3, 3, 3, 4, 5, 6), 3)
        house.enter(("told", 8, "one", 0, 0), ("told", 8, "one", 1, 1))
        self.assertEqual(error_of(payer, house, (), 0), ("TooMany", "world"))
        self.assertEqual(error_of(payer, house, (), 7), ("NoPart", 7))
        self.assertEqual(error_of(payer, house, (None,), 7), ("BadTerms", 0))


class PayerTest(unittest.TestCase):
    def test_sure_and_open(self):
        house = day_house()
        whole = (WHOLE,) * 6
        self.assertEqual(payer(house, TERMS, 4), ("sure", "house"))
        self.assertEqual(payer(house, TERMS, 0), ("open", whole, "house", world_with(p0=(1, 0)), "maker"))
        self.assertEqual(payer(house, (), 1), ("open", whole, "house", world_with(p1=(1, 0)), "customer"))
        house.enter(("told", 6, "old", 1, 1), ("seen", 6, "m", ((1,),), ((0, "g", 0),)))
        self.assertEqual(payer(house, TERMS, 0), ("sure", "maker"))
        self.assertEqual(payer(house, TERMS, 1), ("sure", "house"))
        house.enter(("strike", 10), ("strike", 11), ("told", 10, "old", 1, 1), ("seen", 10, "m", ((1,),), ((0, "g", 0),)))
        self.assertEqual(payer(house, TERMS, 0), ("open", world_with(p0=(1, 0)), "maker", world_with(p0=(1, 1)), "dealer"))
        self.assertEqual(payer(house, (("maker", "pass", 9),), 0), ("sure", "maker"))
        self.assertEqual(payer(house, (), 0), ("sure", "customer"))

    def test_as_told_for_many_houses(self):
        chance = random.Random(511)
        told = {}
        for house in many_wire_houses(501, 200):
            left = plain_worlds(house, house.now)
            for part in range(len(house.floor().kinds)):
                terms = tuple((chance.choice(("ma", "mb")), chance.choice(("pass", "cell", "turner", "any")),
                               chance.randrange(3))
                              for _ in range(chance.randrange(4)))
                if not left:
                    self.assertEqual(error_of(payer, house, terms, part), ("NoWorld", house.now))
                    continue
                payers = [plain_payer(house, terms, part, world) for world in left]
                self.assertEqual([payer_in(house, terms, part, world) for world in left], payers)
                others = [at for at, name in enumerate(payers) if name != payers[0]]
                wanted = ("sure", payers[0])
                if others:
                    wanted = ("open", left[0], payers[0], left[others[0]], payers[others[0]])
                self.assertEqual(payer(house, terms, part), wanted)
                told[wanted[0], wanted[-1]] = told.get((wanted[0], wanted[-1]), 0) + 1
        self.assertGreater(min(told.get(("open", name), 0) for name in ("ma", "mb", "customer")), 3)
        self.assertGreater(told["sure", "customer"], 3)
