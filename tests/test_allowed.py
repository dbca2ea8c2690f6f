import unittest

from tests.houses import (built_house, condition, many_houses, plain_candidates, plain_floors, plain_keeps, plain_worlds,
                          the_house)
from tests.raising import error_of
from tests.samples import CATALOGUE, EXAMPLE, GATE
from tinkerhall.allowed import candidates, conditions, keeps_news, states, worlds
from tinkerhall.alone import alike_alone
from tinkerhall.house import House
from tinkerhall.kinds import Catalogue, Kind
from tinkerhall.machines import run
from tinkerhall.plans import Plan

WHOLE = (0, 0)
LAMP = Kind(2, "lamp", 0, (1,), ways=(("stands", "dark", (0,)), ("flees", "blinks", (0,))))
LIT = Plan(Catalogue(2, (LAMP,)), (), (("p", ("lamp",), (), 1),), ("p",))


def lit_house(most=1):
    """A house in which the lamp 0 came on day 0 and the lamp 1 on day 1; the machine `m` has the lamp 0."""
    house = House(LIT.catalogue, (("lit", LIT),), most=most)
    house.enter(("come", "lamp", "one"), ("build", "m", "lit", (0,)), ("day",), ("come", "lamp", "one"), ("day",))
    return house


def ways_house(many, ways, most, days=0):
    """A house with so many parts of a kind with so many ways, so many days later."""
    told = [("stands", "abcdef"[at], tuple(int(spot == at) for spot in range(9))) for at in range(ways)]
    kind = Kind(3, "kind" + "x", 2, (2,) * 9, ways=told)
    house = House(Catalogue(3, (kind,)), most=most)
    house.enter(*[("come", "kindx", "one")] * many, *[("day",)] * days)
    return house


class StatesTest(unittest.TestCase):
    def test_states(self):
        house = lit_house()
        self.assertEqual(states(house, 0), (WHOLE, (1, 0), (1, 1), (1, 2), (2, 0), (2, 1), (2, 2)))
        self.assertEqual(states(house, 1), (WHOLE, (1, 1), (1, 2), (2, 1), (2, 2)))
        self.assertEqual(states(house, 0, 1), (WHOLE, (1, 0), (2, 0)))
        self.assertEqual(states(house, 1, moment=4), (WHOLE, (1, 1), (2, 1)))
        house.enter(("scrap", 1))
        self.assertEqual(len(states(house, 1)), 5)
        # A kind without ways.
        bare = the_house()
        bare.enter(("come", "cold", "one"), ("day",))
        self.assertEqual(states(bare, 0), (WHOLE,))

    def test_errors(self):
        house = lit_house()
        for part in (2, -1, True, "0", None, (0,)):
            self.assertEqual(error_of(states, house, part), ("NoPart", part))
        self.assertEqual(error_of(states, house, 9, 6), ("NoMoment", 6))
        self.assertEqual(error_of(states, house, 1, 3), ("NoPart", 1))
        self.assertEqual(error_of(states, house, 0, 0), ("NoPart", 0))
        for moment in (6, -1, True, "1"):
            for call in (candidates, worlds):
                self.assertEqual(error_of(call, house, moment), ("NoMoment", moment))


class CandidatesTest(unittest.TestCase):
    def test_numbers(self):
        self.assertEqual(candidates(the_house()), 1)
        self.assertEqual(candidates(lit_house()), 1 + 6 + 4)
        self.assertEqual(candidates(lit_house(most=2)), 1 + 6 + 4 + 24)
        self.assertEqual(candidates(lit_house(most=0)), 1)
        self.assertEqual([candidates(lit_house(), moment) for moment in range(6)], [1, 3, 3, 5, 7, 11])

    def test_however_many(self):
        house = ways_house(10, 6, 3, days=9)
        self.assertEqual(candidates(house), 1 + 600 + 45 * 3600 + 120 * 216000)
        self.assertEqual(error_of(worlds, house), ("TooMany", "world"))

    def test_two_thousand_and_more(self):
        # Four parts of 6 ways in 1 day, and at most 3 breaks: 1 + 24 + 216 + 864; with 9 parts of 6 ways, 2 breaks.
        self.assertEqual(candidates(ways_house(4, 6, 3)), 1105)
        self.assertEqual(len(worlds(ways_house(4, 6, 3))), 1105)
        # 1 + 10 * s + 45 * s * s is 1 + 60 + 1620 for 6 states.
        self.assertEqual(len(worlds(ways_house(10, 6, 2))), 1681)
        self.assertEqual(error_of(worlds, ways_house(5, 6, 3)), ("TooMany", "world"))
        # 16 * 5 * 25 are just 2,000: parts with 15, 4 and 24 broken states, and at most 3 breaks.
        exact = self.house_with(3, ((3, 0), (6, 1), (4, 4)))
        self.assertEqual((candidates(exact), len(worlds(exact))), (2000, 2000))
        # 5, 15, 25 and 30 broken states, and at most 2 breaks, make 2,001.
        more = self.house_with(2, ((1, 0), (3, 0), (5, 0), (6, 0)))
        self.assertEqual((candidates(more), error_of(worlds, more)), (2001, ("TooMany", "world")))

    def house_with(self, most, parts):
        """A house on day 4 with parts told by their ways and the day on which they came."""
        kinds = [Kind(3, "k" + "abcdef"[ways - 1], 2, (2,) * 9, ways=[
            ("stands", "abcdef"[at], tuple(int(spot == at) for spot in range(9))) for at in range(ways)])
            for ways in range(1, 7)]
        house = House(Catalogue(3, kinds), most=most)
        for day in range(5):
            house.enter(*[("come", "k" + "abcdef"[ways - 1], "one") for ways, came in parts if came == day])
            house.enter(*[("day",)] * (day < 4))
        return house


class WorldsTest(unittest.TestCase):
    def test_without_news(self):
        self.assertEqual(worlds(the_house()), ((),))
        self.assertEqual(worlds(lit_house(most=0)), ((WHOLE, WHOLE),))
        told = worlds(lit_house())
        self.assertEqual(told[:3], ((WHOLE, WHOLE), (WHOLE, (1, 1)), (WHOLE, (1, 2))))
        self.assertEqual(told[-1], ((2, 2), WHOLE))
        self.assertEqual(worlds(lit_house(), 1), ((WHOLE,), ((1, 0),), ((2, 0),)))

    def test_order(self):
        told = worlds(lit_house(most=2))
        self.assertEqual(list(told), sorted(told, key=lambda world: (sum(state != WHOLE for state in world), world)))
        self.assertEqual(len(told), 35)

    def test_seen_on_its_day(self):
        house = lit_house()
        # Dark on day 0: it is dark or blinks since then.
        house.enter(("seen", 2, "m", ((),), ((0, "p", 0),)))
        self.assertEqual(worlds(house), (((1, 0), WHOLE), ((2, 0), WHOLE)))
        # It gave light on day 2, so it blinks.
        house.enter(("seen", 5, "m", ((), ()), ((1, "p", 1),)))
        self.assertEqual(worlds(house), (((2, 0), WHOLE),))
        self.assertEqual(len(worlds(house, 6)), 2)
        # The lamp at the moment of the news counts, not the one of today.
        house.enter(("swap", "m", "p", 1), ("scrap", 0))
        self.assertEqual(worlds(house), (((2, 0), WHOLE),))
        house.enter(("seen", house.now, "m", ((),), ((0, "p", 0),)))
        self.assertEqual(worlds(house), ())

    def test_told_counts_what_was_broken_on_its_day(self):
        house = lit_house(most=2)
        house.enter(("told", 1, "one", 1, 1))
        self.assertTrue(all(world[0] in ((1, 0), (2, 0)) for world in worlds(house)))
        house.enter(("told", 4, "one", 2, 2))
        self.assertEqual(worlds(house), tuple(((one, 0), (two, 1)) for one in (1, 2) for two in (1, 2)))
        house.enter(("told", 3, "one", 2, 2))
        # The second lamp had not come ahead of the moment 3.
        self.assertEqual(worlds(house), ())
        house.enter(("strike", 7), ("told", 0, "odd", 0, 3))
        self.assertEqual(len(worlds(house)), 4)
        house.enter(("told", 0, "odd", 1, 3))
        self.assertEqual(worlds(house), ())

    def test_late_news_struck_and_told_again(self):
        house = lit_house()
        house.enter(("seen", 2, "m", ((),), ((0, "p", 0),)), ("day",), ("strike", 5))
        self.assertEqual(len(worlds(house)), candidates(house))
        house.enter(("strike", 5), ("again", 5))
        self.assertEqual(len(worlds(house)), 2)
        self.assertEqual(len(worlds(house, 8)), candidates(house))
        self.assertEqual([len(worlds(house, moment)) for moment in range(5, 11)], [11, 2, 2, 15, 15, 2])

    def test_as_told_for_many_houses(self):
        left = {}
        for house in many_houses(82, 150):
            for moment in (house.now, house.now // 2):
                plain = plain_candidates(house, plain_floors(house)[moment])
                self.assertEqual(candidates(house, moment), len(plain))
                if len(plain) < 500:
                    told = worlds(house, moment)
                    self.assertEqual(told, plain_worlds(house, moment))
                    left[min(len(told), 2)] = left.get(min(len(told), 2), 0) + (len(told) < len(plain))
        self.assertGreater(min(left[0], left[2]), 20)

    def test_whenever_the_news_came(self):
        tried = 0
        for house in many_houses(83, 150, most=(1, 2)):
            if candidates(house) > 500:
                continue
            late = House(house.catalogue, house.plans, most=house.most)
            numbers = {}
            for number, entry in enumerate(house.book):
                if entry[0] not in ("seen", "told", "strike", "again"):
                    numbers[number] = late.enter(entry)[0]
            for number in house.in_force():
                entry = house.book[number]
                # The moment behind the same deeds.
                moment = len([deed for deed in numbers if deed < entry[1]])
                late.enter((entry[0], moment, *entry[2:]))
            self.assertEqual(worlds(late), worlds(house))
            tried += len(house.in_force()) > 1
        self.assertGreater(tried, 30)

    def test_kinds_that_are_alike_alone(self):
        # They differ in their prices, and in the names of their ways.
        gate = Kind(2, "gate", 2, GATE.table, ways=GATE.ways, price=9)
        cell = CATALOGUE["cell"]
        cellar = Kind(2, "cell", 1, cell.table, start=0, ways=[(word, "other" + name[0], table)
                                                               for word, name, table in cell.ways])
        other = Catalogue(2, (cellar, gate, CATALOGUE["join"], CATALOGUE["cold"]))
        plan = Plan(other, EXAMPLE.entries, EXAMPLE.places, EXAMPLE.exits)
        told = [("come", "gate", "one"), ("come", "cell", "two"), ("build", "m", "loop", (0, 1)), ("day",),
                ("seen", 4, "m", ((1,), (0,)), ((1, "c", 1),)), ("told", 3, "two", 0, 0)]
        first = House(CATALOGUE, (("loop", EXAMPLE),), most=2)
        second = House(other, (("loop", plan),), most=2)
        first.enter(*told)
        second.enter(*told)
        self.assertEqual(worlds(first), worlds(second))
        self.assertLess(len(worlds(first)), candidates(first))

    def test_kinds_that_differ_where_no_row_leads(self):
        # No table ever keeps a 2, so what the tables tell for a kept 2 is not seen.
        left = []
        for unseen in ((0, 0, 0), (2, 1, 2)):
            told = {"whole": (0, 1, 1, 1, 0, 0), "stuck": (0, 0, 0, 1, 1, 1), "lost": (1, 0, 0, 0, 0, 0)}
            tables = {name: (*table, *unseen) for name, table in told.items()}
            kind = Kind(3, "turn", 1, tables["whole"], start=0, ways=(("stands", "stuck", tables["stuck"]),
                                                                       ("flees", "lost", tables["lost"])))
            plan = Plan(Catalogue(3, (kind,)), ("a",), (("p", ("turn",), ("a",), 1), ("q", ("turn",), ("p",), 1)), ("q",))
            house = House(plan.catalogue, (("two", plan),), most=2)
            house.enter(("come", "turn", "one"), ("come", "turn", "one"), ("build", "m", "two", (0, 1)), ("day",),
                        ("seen", 3, "m", ((1,), (2,), (0,)), ((2, "q", 1),)), ("seen", 4, "m", ((2,), (2,)), ((1, "p", 0),)))
            left.append((kind, worlds(house), [len(worlds(house, moment)) for moment in range(house.now)]))
        self.assertIsNone(alike_alone(left[0][0], left[1][0]))
        self.assertEqual(left[0][1:], left[1][1:])
        self.assertLess(1, len(left[0][1]))
        self.assertLess(len(left[0][1]), left[0][2][4])

    def test_a_house_cut_and_entered_on_again(self):
        for house in many_houses(87, 60, most=(1, 2)):
            if candidates(house) < 300:
                cut = house.upto(house.now // 3)
                cut.enter(*house.book[cut.now:])
                for moment in (house.now // 2, house.now):
                    self.assertEqual(worlds(cut, moment), worlds(house, moment))
                    self.assertEqual(worlds(house.upto(moment)), worlds(house, moment))

    def test_kinds_that_keep_and_do_not_and_are_alike_alone(self):
        # Both give 1 at once and for ever; broken they give 0, at times or for ever.
        still = Kind(2, "lamp", 0, (1,), ways=(("stands", "dark", (0,)), ("flees", "blinks", (0,))))
        keeping = Kind(2, "lamp", 0, (1, 1), start=1, ways=(("stands", "dark", (0, 0)), ("flees", "blinks", (1, 0))))
        left = []
        for kind in (still, keeping):
            plan = Plan(Catalogue(2, (kind,)), (), (("p", ("lamp",), (), 1),), ("p",))
            house = House(plan.catalogue, (("lit", plan),))
            house.enter(("come", "lamp", "one"), ("build", "m", "lit", (0,)), ("seen", 2, "m", ((),), ((0, "p", 1),)))
            left.append(worlds(house))
        # What keeps shows its start first, whatever breaks it: only alike ways leave the same worlds.
        self.assertEqual(left[0], ((WHOLE,), ((2, 0),)))
        self.assertEqual(left[1], ((WHOLE,), ((1, 0),), ((2, 0),)))

    def test_untouched_parts_are_free(self):
        touched = 0
        for house in many_houses(84, 150, most=(2, 3)):
            if candidates(house) > 500:
                continue
            left = worlds(house)
            free = set(range(len(house.floor().kinds)))
            for number in house.in_force():
                entry = house.book[number]
                floor = house.floor(entry[1])
                told = floor.machine(entry[2])[2] if entry[0] == "seen" else [
                    part for part, lot in enumerate(floor.lots) if lot == entry[2]]
                free -= set(told)
            touched += bool(free) and bool(left) and bool(house.in_force())
            for part in free:
                for world in left:
                    for state in states(house, part):
                        other = (*world[:part], state, *world[part + 1:])
                        if sum(told != WHOLE for told in other) <= house.most:
                            self.assertIn(other, left)
        self.assertGreater(touched, 10)


class KeepsNewsTest(unittest.TestCase):
    def test_worlds_that_keep_other_news_or_not(self):
        house = lit_house()
        house.enter(("seen", 2, "m", ((),), ((0, "p", 0),)), ("told", 5, "one", 0, 0), ("strike", 5))
        self.assertIs(keeps_news(house, ((1, 0), WHOLE), 5), True)
        self.assertIs(keeps_news(house, ((1, 0), WHOLE), 6), False)
        self.assertIs(keeps_news(house, [[0, 0], [0, 0]], 5), False)
        self.assertIs(keeps_news(house, [[0, 0], [0, 0]], 6), True)
        # A state that is ahead of its day is whole there; more breaks than `most` are judged all the same.
        self.assertIs(keeps_news(house, ((1, 1), (2, 1)), 5), False)
        self.assertIs(keeps_news(house, ((1, 0), (2, 1)), 5), True)

    def test_as_told_for_many_houses(self):
        for house in many_houses(85, 60):
            floors = plain_floors(house)
            plain = plain_candidates(house, floors[-1])[:40]
            for number, entry in enumerate(house.book):
                if entry[0] in ("seen", "told"):
                    for world in plain:
                        self.assertIs(keeps_news(house, world, number), plain_keeps(house, floors, world, entry))

    def test_no_news(self):
        house = lit_house()
        house.enter(("told", 5, "one", 0, 0), ("strike", 5))
        for number in (0, 4, 6, 7, -1, True, "5", None, (5,), 10 ** 39):
            self.assertEqual(error_of(keeps_news, house, (WHOLE, WHOLE), number), ("NoNews", number))


class ConditionsTest(unittest.TestCase):
    def test_conditions(self):
        house = lit_house()
        world = ((2, 1), (1, 2))
        self.assertEqual([conditions(house, world, day) for day in range(3)], [(0, 0), (2, 0), (2, 1)])
        self.assertEqual(conditions(house, [[0, 0]], 0), (0,))
        self.assertEqual(conditions(house, (), 0), ())
        self.assertEqual(condition((2, 1), 0), 0)

    def test_a_world_explains_its_run(self):
        house = built_house()
        for world in worlds(house)[:30]:
            told = conditions(house, world, 1)
            filling = (("gate", told[0]), ("cell", told[1]))
            shown = run(EXAMPLE, filling, ((1,),))[0]
            other = house.copy()
            other.enter(("seen", 8, "m", ((1,),), ((0, "g", shown[1]), (0, "c", shown[2]))))
            self.assertIn(world, worlds(other))
