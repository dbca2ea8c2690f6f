import inspect
import unittest

from tests.houses import many_houses, plain_worlds, the_house
from tests.raising import error_of
from tests.test_allowed import LAMP, WHOLE, lit_house, ways_house
from tinkerhall.allowed import candidates
from tinkerhall.blame import (blamed_parts, cleared_parts, fewest, history, least_worlds, open_parts, since, sure_parts)
from tinkerhall.house import House
from tinkerhall.kinds import Catalogue, Kind
from tinkerhall.plans import Plan

LISTS = (blamed_parts, sure_parts, cleared_parts, open_parts)


def broken_lamps():
    """At least one lamp is broken on day 2, and lamp 0 was no longer whole on day 1, or lamp 1 is broken."""
    house = lit_house(most=2)
    house.enter(("told", 5, "one", 1, 2))
    return house


def word_of(left, part):
    if not left:
        return "none"
    broken = {world[part] != WHOLE for world in left}
    return {(True,): "sure", (False,): "cleared"}.get(tuple(broken), "open")


class BlameTest(unittest.TestCase):
    def test_a_house_without_parts(self):
        house = the_house()
        self.assertEqual((fewest(house), least_worlds(house)), (0, ((),)))
        self.assertEqual([call(house) for call in LISTS], [(), (), (), ()])

    def test_what_is_told(self):
        house = broken_lamps()
        self.assertEqual(fewest(house), 1)
        self.assertEqual(len(least_worlds(house)), 10)
        self.assertEqual([call(house) for call in LISTS], [(), (), (), (0, 1)])
        house.enter(("seen", 5, "m", ((),), ((0, "p", 0),)))
        # Lamp 0 is surely broken; lamp 1 is whole in all least worlds, but open.
        self.assertEqual([call(house) for call in LISTS], [(0,), (0,), (), (1,)])
        house.enter(("told", 5, "one", 2, 2))
        self.assertEqual((fewest(house), [call(house) for call in LISTS]), (2, [(0, 1), (0, 1), (), ()]))
        house.enter(("strike", 7), ("told", 5, "one", 0, 1))
        self.assertEqual([call(house) for call in LISTS], [(0,), (0,), (1,), ()])

    def test_a_blamed_part_can_be_open(self):
        # The join gives 0 if it is low, or if both lamps are dark.
        low = Kind(2, "join", 2, (0, 1, 1, 1), ways=(("stands", "low", (0, 0, 0, 0)),))
        plan = Plan(Catalogue(2, (LAMP, low)), (), (("p", ("lamp",), (), 1), ("q", ("lamp",), (), 1),
                                                    ("j", ("join",), ("p", "q"), 1)), ("j",))
        house = House(plan.catalogue, (("lit", plan),), most=2)
        house.enter(("come", "lamp", "one"), ("come", "join", "one"), ("come", "lamp", "one"),
                    ("build", "m", "lit", (0, 2, 1)), ("seen", 4, "m", ((),), ((0, "j", 0),)))
        self.assertEqual((fewest(house), least_worlds(house)), (1, ((WHOLE, (1, 0), WHOLE),)))
        self.assertEqual([call(house) for call in LISTS], [(1,), (), (), (0, 1, 2)])

    def test_since(self):
        house = broken_lamps()
        house.enter(("told", 3, "one", 0, 0))
        # On day 1 lamp 0 was whole; lamp 1 had not come.
        self.assertEqual(since(house, 0), (2, ((1, 2), WHOLE), 2, ((1, 2), WHOLE)))
        self.assertEqual(since(house, 1), (1, (WHOLE, (1, 1)), 2, (WHOLE, (1, 2))))
        house.enter(("seen", 5, "m", ((), ()), ((0, "p", 0), (1, "p", 0))), ("told", 5, "one", 0, 1))
        self.assertIsNone(since(house, 1))

    def test_the_first_world_of_each(self):
        tried = 0
        for house in many_houses(93, 80, most=(1, 2)):
            left = plain_worlds(house, house.now) if candidates(house) < 600 else ()
            for part in range(len(house.floor().kinds)):
                if left:
                    broken = [(world[part][1], at) for at, world in enumerate(left) if world[part] != WHOLE]
                    early, late = min(broken, default=None), min([(-day, at) for day, at in broken], default=None)
                    told = broken and (early[0], left[early[1]], -late[0], left[late[1]]) or None
                    self.assertEqual(since(house, part), told)
                    tried += told is not None and told[0] != told[2]
        self.assertGreater(tried, 20)

    def test_as_told_for_many_houses(self):
        seen = set()
        for house in many_houses(94, 80):
            if candidates(house) > 400:
                continue
            left = plain_worlds(house, house.now)
            if left:
                breaks = [sum(state != WHOLE for state in world) for world in left]
                least = tuple(world for world, many in zip(left, breaks) if many == min(breaks))
                self.assertEqual((fewest(house), least_worlds(house)), (min(breaks), least))
                parts = range(len(house.floor().kinds))
                self.assertEqual(blamed_parts(house), tuple(part for part in parts if word_of(least, part) == "sure"))
                for call, word in zip(LISTS[1:], ("sure", "cleared", "open")):
                    self.assertEqual(call(house), tuple(part for part in parts if word_of(left, part) == word))
            for part in range(len(house.floor().kinds)):
                begun = [at for at in range(house.now + 1) if len(house.floor(at).kinds) > part]
                words = [word_of(plain_worlds(house, at), part) for at in begun]
                self.assertEqual(list(history(house, part)), words)
                seen |= set(words)
        self.assertEqual(seen, {"sure", "cleared", "open", "none"})

    def test_history(self):
        house = lit_house()
        self.assertTrue(inspect.isgeneratorfunction(history))
        self.assertEqual(list(history(house, 0)), ["open"] * 5)
        self.assertEqual(list(history(house, 1)), ["open"] * 2)
        house.enter(("seen", 2, "m", ((),), ((0, "p", 0),)), ("told", 5, "one", 0, 0), ("strike", 5), ("again", 5))
        # What comes late changes nothing of what was known ahead of it.
        self.assertEqual(list(history(house, 0)), ["open"] * 5 + ["sure", "none", "cleared", "none"])
        self.assertEqual(list(history(house, 1)), ["open", "open", "cleared", "none", "cleared", "none"])
        self.assertEqual(list(history(house.upto(1), 0)), ["open"])

    def test_history_of_a_house_cut_and_gone_on(self):
        for house in many_houses(95, 40):
            if candidates(house) < 500 and house.floor().kinds:
                words = list(history(house, 0))
                for moment in range(house.now):
                    cut = house.upto(moment)
                    if cut.floor().kinds:
                        begun = list(history(cut, 0))
                        self.assertEqual(words[:len(begun)], begun)
                    cut.enter(*house.book[moment:])
                    self.assertEqual(list(history(cut, 0)) if moment % 5 == 0 else words, words)

    def test_errors(self):
        house = broken_lamps()
        house.enter(("told", 5, "odd", 1, 1))
        for call in (fewest, least_worlds, *LISTS):
            self.assertEqual(error_of(call, house), ("NoWorld", 7))
        self.assertEqual(error_of(since, house, 0), ("NoWorld", 7))
        for part in (2, -1, True, None, "0"):
            for call in (since, lambda house, part: list(history(house, part))):
                self.assertEqual(error_of(call, house, part), ("NoPart", part))
        self.assertEqual(list(history(house, 1))[-1], "none")
        many = ways_house(5, 6, 3)
        many.enter(("told", 5, "odd", 1, 1))
        for call in (fewest, least_worlds, *LISTS):
            self.assertEqual(error_of(call, many), ("TooMany", "world"))
        self.assertEqual(error_of(since, many, 4), ("TooMany", "world"))
        self.assertEqual(error_of(since, many, 5), ("NoPart", 5))
        self.assertEqual(error_of(lambda: list(history(many, 4))), ("TooMany", "world"))
        self.assertEqual(error_of(lambda: list(history(many, 5))), ("NoPart", 5))
