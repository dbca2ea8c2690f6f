import unittest

from tests.houses import built_house, many_houses, plain_floors, plain_in_force, the_house, told_of
from tests.raising import error_of
from tests.samples import CATALOGUE, EXAMPLE, STILL, TURNED
from tinkerhall.floors import Floor
from tinkerhall.house import House
from tinkerhall.kinds import Catalogue

PARTS = (("come", "gate", "one"), ("come", "cell", "one"), ("come", "gate", "one"), ("come", "cell", "one"))


class HouseTest(unittest.TestCase):
    def test_a_new_house(self):
        house = House(CATALOGUE)
        self.assertEqual((house.catalogue, house.plans, house.most), (CATALOGUE, (), 1))
        self.assertEqual((house.now, house.today, house.book, len(house), list(house)), (0, 0, (), 0, []))
        self.assertEqual(House(CATALOGUE, [["loop", EXAMPLE]], most=0).plans, (("loop", EXAMPLE),))
        self.assertEqual(house.in_force(), ())
        self.assertEqual(told_of(house.floor()), (0, (), (), (), (), (), (), ()))

    def test_bad_house(self):
        pair = ("loop", EXAMPLE)
        five = [("l" + "abcde"[at], EXAMPLE) for at in range(5)]
        for plans in (None, "ab", EXAMPLE, (pair, pair), five, (("plan", EXAMPLE),), (("Loop", EXAMPLE),), (EXAMPLE,),
                      (("loop",),), (("loop", EXAMPLE, 1),), (("loop", None),), (pair, ("still", STILL)), ((7, EXAMPLE),),
                      (("loop", CATALOGUE),), (pair, ["loop", TURNED])):
            self.assertEqual(error_of(House, CATALOGUE, plans, most=9), ("BadHouse", "plans"), plans)
        self.assertEqual(error_of(House, Catalogue(2, CATALOGUE.kinds[:4]), (pair,)), ("BadHouse", "plans"))
        for most in (-1, 4, True, None, "1"):
            self.assertEqual(error_of(House, CATALOGUE, five[:4], most=most), ("BadHouse", "most"), most)
        self.assertIsNone(error_of(House, Catalogue(2, list(CATALOGUE.kinds)), five[:4], most=3))

    def test_enter_and_read(self):
        house = the_house()
        self.assertEqual(house.enter(), ())
        self.assertEqual(house.enter(["come", "gate", "one"], ("day",)), (0, 1))
        self.assertEqual(house.enter(("day",)), (2,))
        self.assertEqual(house.book, (("come", "gate", "one"), ("day",), ("day",)))
        self.assertEqual((house.now, house.today, len(house)), (3, 2, 3))
        self.assertEqual((house[0], list(house)), (("come", "gate", "one"), list(house.book)))

    def test_lists_are_kept_as_tuples(self):
        house = the_house()
        house.enter(*[list(entry) for entry in PARTS], ["build", "m", "loop", [2, 1]],
                    ["seen", 5, "m", [[0], [1]], [[1, "g", 0], [0, "c", 0]]])
        self.assertEqual(house.book[4:], (("build", "m", "loop", (2, 1)),
                                          ("seen", 5, "m", ((0,), (1,)), ((1, "g", 0), (0, "c", 0)))))
        self.assertEqual(house.floor().machine("m"), ("m", "loop", (2, 1), True))

    def test_equal_and_copy(self):
        house = built_house()
        copied = house.copy()
        self.assertEqual(copied, house)
        self.assertEqual(copied.floor(), house.floor())
        copied.enter(("day",))
        self.assertNotEqual(copied, house)
        self.assertEqual((house.now, copied.now, house.today), (8, 9, 1))
        self.assertNotEqual(built_house(most=2), house)
        bare = House(CATALOGUE, (("loop", EXAMPLE),))
        self.assertNotEqual(bare, House(CATALOGUE, (("pool", EXAMPLE),)))
        self.assertNotEqual(bare, House(CATALOGUE, (("loop", TURNED),)))
        self.assertEqual(bare, House(Catalogue(2, CATALOGUE.kinds), (("loop", EXAMPLE.changed()),), most=1))
        self.assertNotEqual(House(CATALOGUE), House(Catalogue(2)))
        self.assertFalse(bare == bare.book)
        # As many entries, in another order.
        one, two = bare.copy(), bare.copy()
        one.enter(("come", "gate", "one"), ("come", "cell", "one"))
        two.enter(("come", "cell", "one"), ("come", "gate", "one"))
        self.assertNotEqual(one, two)

    def test_if_one_is_refused_none_is_entered(self):
        house = built_house()
        before = (house.book, told_of(house.floor()))
        self.assertEqual(error_of(house.enter, ("day",), ("come", "odd", "one"), ("come", "odder", "one")),
                         ("Unknown", "odd"))
        self.assertEqual(error_of(house.enter, ("day",), None, ("day",)), ("BadEntry", 9))
        self.assertEqual((house.book, told_of(house.floor())), before)
        self.assertEqual(house.today, 1)

    def test_moments(self):
        house = built_house()
        self.assertEqual(house.floor(0), the_house().floor())
        self.assertEqual(house.floor(8), house.floor())
        self.assertEqual(house.floor(5).machine("m"), ("m", "loop", (0, 1), True))
        self.assertEqual(error_of(house.floor(4).machine, "m"), ("Unknown", "m"))
        self.assertEqual(house.upto(0), the_house())
        self.assertEqual((house.upto(6).book, house.upto(6).today), (house.book[:6], 1))
        self.assertEqual(house.upto(8), house)
        cut = house.upto(5)
        cut.enter(*house.book[5:])
        self.assertEqual((cut, cut.floor(6)), (house, house.floor(6)))
        for call in (house.floor, house.in_force, house.upto):
            for moment in (9, -1, True, "1", (), 10 ** 39):
                self.assertEqual(error_of(call, moment), ("NoMoment", moment), call)
        self.assertEqual(error_of(house.upto, None), ("NoMoment", None))

    def test_plan_of(self):
        house = the_house()
        self.assertEqual((house.plan_of("loop"), house.plan_of("turned")), (EXAMPLE, TURNED))
        for name in ("odd", "m", 7, None, ["loop"]):
            self.assertEqual(error_of(house.plan_of, name), ("Unknown", name))

    def test_what_is_returned_belongs_to_the_caller(self):
        house = built_house()
        house.floor().shelf = ()
        house.floor(3).day = 7
        self.assertEqual((house.floor().shelf, house.floor(3).day), ((2, 3, 4, 5), 0))

    def test_floors_and_news_of_many_houses(self):
        for house in many_houses(81, 120):
            floors = plain_floors(house)
            for moment in range(house.now + 1):
                self.assertEqual(told_of(house.floor(moment)), floors[moment])
                self.assertEqual(house.in_force(moment), plain_in_force(house.book, moment))
            cut = house.upto(house.now // 2)
            self.assertEqual(cut.floor(), house.floor(house.now // 2))
            cut.enter(*house.book[house.now // 2:])
            self.assertEqual((cut, cut.floor(), cut.in_force()), (house, house.floor(), house.in_force()))


class FloorTest(unittest.TestCase):
    def test_attributes(self):
        floor = built_house().floor()
        self.assertIsInstance(floor, Floor)
        self.assertEqual((floor.day, floor.kinds), (1, ("gate", "cell", "join", "cold", "cell", "gate")))
        self.assertEqual((floor.lots, floor.came), (("one", "one", "two", "two", "one", "two"), (0, 0, 0, 0, 1, 1)))
        self.assertEqual((floor.shelf, floor.bench, floor.gone), ((2, 3, 4, 5), (), ()))
        self.assertEqual(floor.machines, (("m", "loop", (0, 1), True),))

    def test_where(self):
        house = built_house()
        house.enter(("swap", "m", "g", 2), ("scrap", 3), ("swap", "m", "c", 4), ("scrap", 1))
        told = [house.floor().where(part) for part in range(6)]
        self.assertEqual(told, [("bench", "m", "g"), ("gone",), ("place", "m", "g"), ("gone",), ("place", "m", "c"),
                                ("shelf",)])
        for part in (-1, 6, True, False, "0", None, (0,), 10 ** 39):
            self.assertEqual(error_of(house.floor().where, part), ("NoPart", part))
        self.assertEqual(error_of(house.floor(3).where, 3), ("NoPart", 3))

    def test_machine(self):
        house = built_house()
        house.enter(("give", "m"))
        self.assertEqual(house.floor().machine("m"), ("m", "loop", (0, 1), False))
        for name in ("loop", "odd", 0, None, ["m"]):
            self.assertEqual(error_of(house.floor().machine, name), ("Unknown", name))

    def test_equal(self):
        house = built_house()
        floor = house.floor()
        for entry in (("day",), ("come", "gate", "one"), ("scrap", 2), ("swap", "m", "g", 2), ("give", "m"),
                      ("build", "n", "loop", (5, 4))):
            other = house.copy()
            other.enter(entry)
            self.assertNotEqual(other.floor(), floor)
        same = house.copy()
        same.enter(("give", "m"), ("take", "m"), ("told", 0, "one", 0, 9))
        self.assertEqual(same.floor(), floor)
        # They differ in the lot, then in the day of a part alone.
        one, two, three = the_house(), the_house(), the_house()
        one.enter(("come", "gate", "one"), ("day",))
        two.enter(("come", "gate", "two"), ("day",))
        three.enter(("day",), ("come", "gate", "one"))
        self.assertNotEqual(one.floor(), two.floor())
        self.assertNotEqual(one.floor(), three.floor())
        self.assertFalse(floor == house)
        for name in ("day", "kinds", "lots", "came", "shelf", "bench", "gone", "machines"):
            self.assertNotEqual(floor.changed(**{name: "other"}), floor)


class EntriesTest(unittest.TestCase):
    def setUp(self):
        self.house = built_house()

    def behind(self, *entries):
        self.house.enter(*entries)
        return self.house.floor()

    def refused(self, *entries):
        return error_of(self.house.enter, *entries)

    def test_come_and_day(self):
        floor = self.behind(("come", "turn", "new"))
        self.assertEqual((floor.kinds[6], floor.lots[6], floor.came[6], floor.shelf[-1]), ("turn", "new", 1, 6))
        self.assertEqual(self.refused(("come", "odd", "new")), ("Unknown", "odd"))
        self.assertIsNone(self.refused(*[("come", "turn", "new")] * 3))
        self.assertEqual(self.refused(("come", "turn", "new")), ("TooMany", "part"))
        self.assertEqual(self.refused(("come", "odd", "new")), ("Unknown", "odd"))
        self.behind(*[("day",)] * 8)
        self.assertEqual((self.house.today, self.refused(("day",))), (9, ("TooMany", "day")))

    def test_scrapped_parts_count(self):
        self.behind(*[("come", "turn", "new")] * 4, ("scrap", 9))
        self.assertEqual(self.refused(("come", "turn", "new")), ("TooMany", "part"))

    def test_build(self):
        floor = self.behind(("build", "n", "loop", [2, 4]))
        self.assertEqual(floor.machines[1], ("n", "loop", (2, 4), True))
        self.assertEqual(floor.shelf, (3, 5))
        self.assertEqual(self.behind(("build", "o", "bare", ())).machines[2], ("o", "bare", (), True))

    def test_build_refused(self):
        self.assertEqual(self.refused(("build", "m", "odd", (9,))), ("Twice", "m"))
        self.assertEqual(self.refused(("build", "n", "odd", (9,))), ("Unknown", "odd"))
        for parts, part in (((2, 0), 0), ((9, 1), 9), ((2, 4, 2), 2), ((2, 4, 1), 1), ((3, 3), 3), ((2, 6), 6), ((0,), 0),
                            ((3, 2, 5, 10 ** 30), 10 ** 30)):
            self.assertEqual(self.refused(("build", "n", "loop", parts)), ("NotThere", part), parts)
        self.assertEqual(self.refused(("build", "n", "loop", (2, 3, 4, 5, 9, 8))), ("NotThere", 9))
        for parts, place in (((4, 2), "g"), ((2, 5), "c"), ((), "g"), ((5,), "c"), ((4, 2, 3), "g")):
            self.assertEqual(self.refused(("build", "n", "loop", parts)), ("Unfit", place), parts)
        self.assertEqual(self.refused(("build", "n", "loop", (2, 4, 3, 5))), ("NotThere", 3))
        self.assertEqual(self.refused(("build", "n", "bare", (5, 3))), ("NotThere", 5))

    def test_the_fifth_machine(self):
        self.behind(*[("build", "n" + letter, "bare", ()) for letter in "abc"])
        self.assertEqual(self.refused(("build", "ne", "bare", ())), ("TooMany", "machine"))
        self.assertEqual(self.refused(("build", "ne", "loop", (2, 4, 3))), ("NotThere", 3))
        self.assertEqual(self.refused(("build", "ne", "loop", (2,))), ("Unfit", "c"))
        self.assertEqual(self.refused(("build", "m", "bare", ())), ("Twice", "m"))

    def test_swap(self):
        floor = self.behind(("swap", "m", "g", 2), ("swap", "m", "c", 3), ("swap", "m", "g", 5))
        self.assertEqual((floor.shelf, floor.bench), ((4,), (("m", "g", 0), ("m", "c", 1), ("m", "g", 2))))
        self.assertEqual(floor.machine("m"), ("m", "loop", (5, 3), True))

    def test_swap_refused(self):
        self.assertEqual(self.refused(("swap", "odd", "odd", 9)), ("Unknown", "odd"))
        self.behind(("give", "m"))
        self.assertEqual(self.refused(("swap", "m", "odd", 9)), ("Away", "m"))
        self.behind(("take", "m"))
        self.assertEqual(self.refused(("swap", "m", "in", 9)), ("Unknown", "in"))
        self.assertEqual(self.refused(("swap", "m", "g", 0)), ("NotThere", 0))
        self.assertEqual(self.refused(("swap", "m", "g", 6)), ("NotThere", 6))
        self.assertEqual(self.refused(("swap", "m", "g", 4)), ("Unfit", "g"))

    def test_back(self):
        self.behind(("swap", "m", "g", 2), ("swap", "m", "c", 3), ("swap", "m", "g", 5))
        floor = self.behind(("back", "m", "g"))
        self.assertEqual((floor.shelf, floor.bench), ((5, 4), (("m", "g", 0), ("m", "c", 1))))
        self.assertEqual(floor.machine("m")[2], (2, 3))
        floor = self.behind(("back", "m", "g"))
        self.assertEqual((floor.shelf, floor.bench, floor.machine("m")[2]), ((2, 5, 4), (("m", "c", 1),), (0, 3)))
        self.assertEqual(self.refused(("back", "m", "g")), ("NoBench", "g"))

    def test_back_refused(self):
        self.assertEqual(self.refused(("back", "odd", "odd")), ("Unknown", "odd"))
        self.assertEqual(self.refused(("back", "m", "in")), ("Unknown", "in"))
        self.behind(("swap", "m", "g", 2), ("build", "n", "loop", (5, 4)))
        self.assertEqual(self.refused(("back", "m", "c")), ("NoBench", "c"))
        self.assertEqual(self.refused(("back", "n", "g")), ("NoBench", "g"))
        self.behind(("give", "m"))
        self.assertEqual(self.refused(("back", "m", "odd")), ("Away", "m"))

    def test_move(self):
        self.behind(("build", "n", "loop", (2, 4)))
        floor = self.behind(("move", "m", "g", "n", "g"))
        self.assertEqual([told[2] for told in floor.machines], [(2, 1), (0, 4)])
        floor = self.behind(("move", "n", "c", "m", "c"))
        self.assertEqual([told[2] for told in floor.machines], [(2, 4), (0, 1)])
        floor = self.behind(("move", "m", "g", "m", "g"))
        self.assertEqual(([told[2] for told in floor.machines], floor.shelf), ([(2, 4), (0, 1)], (3, 5)))
        self.assertEqual(self.house.now, 12)

    def test_move_within_one_machine(self):
        twin = EXAMPLE.changed(places=(("g", ("gate", "join"), ("in", "h"), 3), ("h", ("join", "gate"), ("in", "in"), 1)),
                               exits=("g",))
        self.house = House(CATALOGUE, (("twin", twin),))
        self.behind(("come", "gate", "one"), ("come", "join", "one"), ("build", "m", "twin", (0, 1)))
        self.assertEqual(self.behind(("move", "m", "h", "m", "g")).machine("m")[2], (1, 0))

    def test_move_refused(self):
        self.behind(("build", "n", "loop", (2, 4)), ("build", "o", "loop", (5, 3)), ("give", "n"))
        self.assertEqual(self.refused(("move", "odd", "odd", "odder", "odd")), ("Unknown", "odd"))
        self.assertEqual(self.refused(("move", "n", "odd", "odder", "odd")), ("Away", "n"))
        self.assertEqual(self.refused(("move", "m", "odd", "odder", "odd")), ("Unknown", "odd"))
        self.assertEqual(self.refused(("move", "m", "g", "odder", "odd")), ("Unknown", "odder"))
        self.assertEqual(self.refused(("move", "m", "g", "n", "odd")), ("Away", "n"))
        self.assertEqual(self.refused(("move", "m", "g", "o", "in")), ("Unknown", "in"))
        self.assertEqual(self.refused(("move", "m", "g", "o", "c")), ("Unfit", "g"))
        self.assertEqual(self.refused(("move", "o", "c", "m", "g")), ("Unfit", "c"))
        # The first place takes either kind, the second one only its own.
        wide = EXAMPLE.changed(places=(("h", ("gate", "join"), ("in", "in"), 1), ("j", ("join",), ("in", "in"), 1)),
                               exits=("h",))
        self.house = House(CATALOGUE, (("wide", wide),))
        self.behind(("come", "gate", "one"), ("come", "join", "one"), ("build", "m", "wide", (0, 1)))
        self.assertEqual(self.refused(("move", "m", "h", "m", "j")), ("Unfit", "j"))

    def test_shelve_and_scrap(self):
        self.behind(("swap", "m", "g", 2), ("swap", "m", "g", 5))
        floor = self.behind(("shelve", 0))
        self.assertEqual((floor.shelf, floor.bench), ((3, 4, 0), (("m", "g", 2),)))
        floor = self.behind(("scrap", 4), ("scrap", 2))
        self.assertEqual((floor.shelf, floor.bench, floor.gone), ((3, 0), (), (2, 4)))
        for part in (0, 1, 2, 5, 6):
            self.assertEqual(self.refused(("shelve", part)), ("NotThere", part))
        for part in (1, 2, 4, 5, 6):
            self.assertEqual(self.refused(("scrap", part)), ("NotThere", part))

    def test_give_and_take(self):
        self.assertEqual(self.refused(("take", "m")), ("Here", "m"))
        self.assertIs(self.behind(("give", "m")).machine("m")[3], False)
        self.assertEqual(self.refused(("give", "m")), ("Away", "m"))
        self.assertIs(self.behind(("take", "m")).machine("m")[3], True)
        for word in ("give", "take"):
            self.assertEqual(self.refused((word, "odd")), ("Unknown", "odd"))

    def test_seen(self):
        good = ("seen", 8, "m", ((0,), (1,)), ((1, "c", 0),))
        before = self.house.floor()
        self.assertEqual(self.behind(good), before)
        self.assertEqual(self.refused(("seen", 10, "odd", (), ())), ("NoMoment", 10))
        self.assertIsNone(self.refused(("seen", 9, "m", ((0,),) * 8, ((7, "in", 1),))))
        self.assertEqual(self.refused(("seen", 4, "m", (), ())), ("Unknown", "m"))
        self.assertIsNone(self.refused(("seen", 5, "m", ((0,),), ((0, "in", 1),))))
        self.assertEqual(self.refused(("seen", 5, "odd", (), ())), ("Unknown", "odd"))
        for row, step in (((), -1), (((0,),) * 9, -1), (((0,), (2,)), 1), (((True,),), 0), ((None, None), 0),
                          (((0,), (0, 0), 7), 1)):
            self.assertEqual(self.refused(("seen", 5, "m", row, ())), ("BadRow", step), row)
        for sights, number in (((), -1), (tuple((at, "c", 0) for at in range(7)), -1), (((0, "c", 0), (2, "c", 0)), 1),
                               (((0, "c", 0), (0, "c", 1)), 1), ((None,), 0), (((0, "odd", 0),), 0), (((0, "c", 2),), 0),
                               (((0, "c", True),), 0), (((False, "c", 0),), 0), (((1, "c", 0), [1, "c", 0]), 1)):
            self.assertEqual(self.refused(("seen", 5, "m", ((0,),) * (8 if len(sights) > 5 else 2), sights)),
                             ("BadSights", number), sights)
        # A machine that is given out can still be seen, and late news can tell of any moment.
        self.assertIsNone(self.refused(("give", "m"), good))

    def test_told(self):
        before = self.house.floor()
        self.assertEqual(self.behind(("told", 8, "odd", 0, 10), ("told", 0, "one", 10, 10), ("told", 10, "one", 0, 0)),
                         before)
        self.assertEqual(self.refused(("told", 12, "one", 0, 0)), ("NoMoment", 12))

    def test_strike_and_again(self):
        self.behind(("told", 8, "one", 0, 1), ("seen", 8, "m", ((0,),), ((0, "c", 0),)))
        self.assertEqual(self.house.in_force(), (8, 9))
        self.behind(("strike", 8), ("strike", 8))
        self.assertEqual(self.house.in_force(), (9,))
        self.behind(("again", 8), ("again", 9), ("strike", 9))
        self.assertEqual((self.house.in_force(), self.house.in_force(14), self.house.in_force(10)), ((8,), (8, 9), (8, 9)))
        self.assertEqual((self.house.in_force(8), self.house.in_force(9), self.house.in_force(11)), ((), (8,), (9,)))
        for word in ("strike", "again"):
            for number in (0, 7, 10, 15, 99, 10 ** 39):
                self.assertEqual(self.refused((word, number)), ("NoNews", number))
        # News that stands in the same call is there already.
        self.assertIsNone(self.refused(("told", 8, "one", 0, 1), ("strike", 15)))

    def test_bad_entries(self):
        row, sights = ((0,),), ((0, "c", 0),)
        bad = [None, 7, "day", (), [], {}, ("odd",), (None,), (["day"],), ("day", 1), ("come", "gate"),
               ("come", "gate", "one", "one"), ("come", "Gate", "one"), ("come", "gate", "kind"), ("come", 7, "one"),
               ("come", "gate", ""), ("build", "m", "loop"), ("build", "m", "loop", 7), ("build", "m", "loop", "ab"),
               ("build", "n", "loop", (0, -1)), ("build", "n", "loop", (True,)), ("build", "n", "loop", range(2)),
               ("build", "n", "loop", (1, 2, 3, 4, 5, 6, 7)), ("build", "n", None, ()), ("build", "house", "loop", ()),
               ("swap", "m", "g"), ("swap", "m", "g", "2"), ("swap", "m", "g", -1), ("swap", "m", "g", True),
               ("swap", "m", "from", 2), ("back", "m"), ("back", "m", 0), ("move", "m", "g"), ("move", "m", "g", "m", 0),
               ("move", "m", "g", "m", "g", "m"), ("shelve",), ("shelve", None), ("shelve", False), ("scrap", -1),
               ("scrap", "0"), ("give",), ("give", "m", 0), ("give", "ninechars"), ("take", 5), ("take", "m1"),
               ("seen", -1, "m", row, sights), ("seen", True, "m", row, sights), ("seen", 5, 5, row, sights),
               ("seen", 5, "m", "0", sights), ("seen", 5, "m", row, None), ("seen", 5, "m", row), ("seen", 5, "m", row, {}),
               ("told", 0, "one", 1, 0), ("told", 0, "one", 0, 11), ("told", 0, "one", -1, 3), ("told", 0, "one", 0, True),
               ("told", None, "one", 0, 1), ("told", 0, "table", 0, 1), ("told", 0, "one", 0), ("strike", "8"),
               ("strike", -1), ("strike",), ("again", True), ("again", None), ("again", 1, 2)]
        for entry in bad:
            self.assertEqual(self.refused(entry), ("BadEntry", 8), entry)
        self.assertEqual(self.refused(("day",), ("give", "M")), ("BadEntry", 9))

    def test_the_sixty_first_entry(self):
        self.behind(*[("told", 0, "one", 0, 0)] * 51)
        self.assertEqual(self.house.now, 59)
        self.assertEqual(self.refused(("day",), ("day",)), ("TooMany", "entry"))
        self.assertEqual(self.house.now, 59)
        self.behind(("day",))
        self.assertEqual(self.refused(("come", "odd", "one")), ("TooMany", "entry"))
        self.assertEqual(self.refused(("strike", 99)), ("TooMany", "entry"))
        self.assertEqual(self.refused(("come", "Odd", "one")), ("BadEntry", 60))
