import unittest

from tests.houses import built_house, many_houses, told_of
from tests.raising import error_of
from tinkerhall.allowed import candidates, worlds
from tinkerhall.floors import Floor
from tinkerhall.trials import Trial, tried

DARK = ("told", 8, "one", 1, 1)


class TrialTest(unittest.TestCase):
    def setUp(self):
        self.house = built_house()
        self.before = self.state()

    def state(self):
        return (self.house.book, told_of(self.house.floor()), self.house.in_force(), worlds(self.house), self.house.today)

    def test_the_house_is_as_it_was(self):
        with Trial(self.house) as house:
            self.assertIs(house, self.house)
            house.enter(("day",), DARK)
            self.assertEqual((house.now, house.today, house.in_force()), (10, 2, (9,)))
        self.assertEqual(self.state(), self.before)

    def test_errors_go_on(self):
        with self.assertRaises(KeyError):
            with Trial(self.house) as house:
                house.enter(("day",))
                raise KeyError(1)
        self.assertEqual(self.state(), self.before)
        with self.assertRaises(ValueError):
            with Trial(self.house) as house:
                house.enter(("day",))
                house.enter(("give", "odd"))
        self.assertEqual(self.state(), self.before)

    def test_within_one_another(self):
        with Trial(self.house) as outer:
            outer.enter(("day",))
            with Trial(self.house):
                self.house.enter(("scrap", 2), ("day",))
                self.assertEqual(self.house.now, 11)
            self.assertEqual((self.house.now, self.house.today), (9, 2))
            self.house.enter(("scrap", 3))
        self.assertEqual(self.state(), self.before)

    def test_used_again_and_within_itself(self):
        trial = Trial(self.house)
        for _ in range(2):
            with trial:
                self.house.enter(("day",))
            self.assertEqual(self.state(), self.before)
        self.house.enter(("come", "gate", "one"))
        with trial:
            self.house.enter(("day",))
            with trial as house:
                house.enter(("day",))
            self.assertEqual((self.house.now, self.house.today), (10, 2))
        self.assertEqual((self.house.now, self.house.today), (9, 1))

    def test_what_was_had_in_the_block_stays_with_the_caller(self):
        with Trial(self.house) as house:
            house.enter(("day",))
            kept = house.copy()
        self.assertEqual((kept.today, self.house.today), (2, 1))


class TriedTest(unittest.TestCase):
    def test_floor_and_worlds(self):
        house = built_house()
        floor, left = tried(house, [["swap", "m", "g", 2], ["told", 8, "one", 2, 2]])
        self.assertIsInstance(floor, Floor)
        self.assertEqual((floor.machine("m")[2], floor.bench), ((2, 1), (("m", "g", 0),)))
        self.assertEqual(left, ())
        self.assertEqual((house.now, house.floor().bench), (8, ()))
        floor, left = tried(house, ())
        self.assertEqual((floor, left), (house.floor(), worlds(house)))

    def test_errors_leave_the_house_as_it_was(self):
        house = built_house(most=3)
        before = house.book
        self.assertEqual(error_of(tried, house, (("day",), ("give", "odd"))), ("Unknown", "odd"))
        self.assertEqual(error_of(tried, house, (("day",), ("give",))), ("BadEntry", 9))
        many = [("come", "gate", "one")] * 4 + [("day",)]
        self.assertEqual(error_of(tried, house, many), ("TooMany", "world"))
        self.assertEqual((house.book, house.today), (before, 1))

    def test_as_entered_for_many_houses(self):
        for house in many_houses(86, 60):
            cut = house.upto(house.now // 2)
            if candidates(house) < 500:
                before = cut.copy()
                self.assertEqual(tried(cut, house.book[cut.now:]), (house.floor(), worlds(house)))
                self.assertEqual((cut, cut.floor()), (before, before.floor()))
