import itertools
import unittest

from tests import naive
from tests.houses import plain_floors, plain_worlds
from tests.looking import plain_look
from tests.raising import error_of
from tests.repairs import WIRE
from tests.working import BARE, many_wire_houses, plain_acts, plain_filling, ways_house, wire_house
from tinkerhall.acting import Acting
from tinkerhall.allowed import worlds
from tinkerhall.calls import called_back, clearance
from tinkerhall.house import House
from tinkerhall.lookers import Looker

WHOLE = (0, 0)
GATE_OLD = ("told", 6, "old", 1, 1)


def claim_of(house, machine, row):
    return ("never", tuple(zip(house.floor().machine(machine)[2], row)))


def heard(house, most):
    """The house with bulletins by which nearly nothing of its lots is broken."""
    other = house.copy()
    other.enter(("told", house.now, "one", 0, most), ("told", house.now, "two", 0, 0))
    return other


def many_papers(paper):
    return 1 + sum(map(many_papers, paper[2])) if paper[0] == "part" else 1


class CalledBackTest(unittest.TestCase):
    def test_called_back(self):
        house = wire_house()
        self.assertEqual(called_back(house), ())
        house.enter(("give", "m"))
        # The first world in which it does not act as whole: the cell is stuck, which shows behind two steps at the earliest.
        first = (WHOLE, (1, 0), WHOLE, WHOLE, WHOLE)
        self.assertEqual(called_back(house), (("m", first, ((1,), (0,))),))
        house.enter(("told", 6, "new", 1, 1))
        self.assertEqual(called_back(house), ())
        house.enter(("strike", 7))
        self.assertEqual(called_back(house), (("m", first, ((1,), (0,))),))
        house.enter(("take", "m"))
        self.assertEqual(called_back(house), ())

    def test_the_conditions_of_the_present_day(self):
        house = wire_house()
        house.enter(("told", 6, "old", 0, 0), ("give", "m"))
        self.assertEqual(called_back(house), ())
        house.enter(("day",))
        self.assertEqual(called_back(house), (("m", (WHOLE, (1, 1), WHOLE, WHOLE, WHOLE), ((1,), (0,))),))

    def test_several_machines_and_one_without_places(self):
        house = wire_house()
        house.enter(("come", "pass", "new"), ("come", "cell", "new"), ("build", "b", "bare", ()),
                    ("build", "a", "wire", (4 + 1, 6)),
                    ("build", "z", "wire", (4, 3)), ("give", "z"), ("give", "b"), ("give", "a"), ("give", "m"))
        calls = called_back(house)
        # The machine z with the turner does not act as whole in whatever world, the first of all is that where all are whole.
        self.assertEqual([name for name, _, _ in calls], ["m", "a", "z"])
        self.assertEqual(calls[2][1:], ((WHOLE,) * 7, ((0,), (0,))))
        self.assertEqual(house.floor().machines[1][:2], ("b", "bare"))
        self.assertEqual(clearance(house, "b"), ())

    def test_errors(self):
        for given in ((), (("give", "m"),)):
            house = wire_house()
            house.enter(GATE_OLD, ("told", 6, "new", 1, 1), *given)
            self.assertEqual(error_of(called_back, house), ("NoWorld", house.now))
            self.assertEqual(error_of(clearance, house, "m"), ("NoWorld", house.now))
            house = ways_house((2, 3, 3, 3, 4, 5, 6), 3)
            house.enter(("told", 8, "one", 0, 0), ("told", 8, "one", 1, 1), *given)
            self.assertEqual(error_of(called_back, house), ("TooMany", "world"))
            self.assertEqual(error_of(clearance, house, "m"), ("TooMany", "world"))
            for name in ("odd", "planx", None, 0, ["m"]):
                self.assertEqual(error_of(clearance, house, name), ("Unknown", name))
        self.assertEqual(called_back(House(WIRE.catalogue)), ())

    def test_as_told_for_many_houses(self):
        calls = 0
        for house in many_wire_houses(501, 200):
            left = plain_worlds(house, house.now)
            if not left:
                self.assertEqual(error_of(called_back, house), ("NoWorld", house.now))
                continue
            wanted = []
            for name, _, _, inside in house.floor().machines:
                bad = [world for world in left if not plain_acts(*plain_filling(house, name, world))]
                if bad and not inside:
                    plan, filling = plain_filling(house, name, bad[0])
                    wanted.append((name, bad[0], naive.first_difference(plan, filling, 3)[0]))
            self.assertEqual(called_back(house), tuple(wanted))
            calls += len(wanted)
        self.assertGreater(calls, 20)


class ClearanceTest(unittest.TestCase):
    def assert_clear(self, house, machine):
        """Holds what is told of a machine in the clear against the words of the document."""
        papers = clearance(house, machine)
        _, kinds, _, _, _, _, _, machines = plain_floors(house)[-1]
        _, name, parts, _ = [told for told in machines if told[0] == machine][0]
        plan = house.plan_of(name)
        lots = [range(len(plan.catalogue[kinds[part]].ways) + 1) for part in parts]
        rows = [row for row in itertools.product(*lots) if sum(told != 0 for told in row) <= house.most
                and not plain_acts(plan, tuple((kinds[part], told) for part, told in zip(parts, row)))]
        self.assertEqual([row for row, _ in papers], rows)
        for row, paper in papers:
            claim = claim_of(house, machine, row)
            self.assertIsNone(Looker(house, claim)(paper))
            self.assertIsNone(plain_look(house, claim, house.most, paper))
        return papers

    def test_no_part_can_be_broken(self):
        house = wire_house()
        house.enter(("told", 6, "old", 0, 0))
        papers = self.assert_clear(house, "m")
        # The wire that gives 1 for ever shows it, as the one that gives 0 does, and the cell both ways.
        self.assertEqual([row for row, _ in papers], [(0, 1), (0, 2), (1, 0), (2, 0), (3, 0)])
        house.enter(("give", "m"))
        self.assertEqual([row for row, _ in self.assert_clear(house, "m")], [(0, 1), (0, 2), (1, 0), (2, 0), (3, 0)])
        house.enter(("strike", 6))
        self.assertIsNone(clearance(house, "m"))

    def test_most_0_and_most_2(self):
        house = wire_house(most=0)
        self.assertEqual(clearance(house, "m"), ())
        house.enter(("swap", "m", "g", 4))
        self.assertIsNone(clearance(house, "m"))
        house = wire_house(most=2)
        house.enter(("told", 6, "old", 0, 0))
        self.assertEqual(len(self.assert_clear(house, "m")), 5 + 6)

    def test_a_machine_without_places(self):
        house = wire_house()
        house.enter(("build", "b", "bare", ()), ("give", "b"))
        self.assertEqual((clearance(house, "b"), called_back(house)), ((), ()))
        self.assertEqual(BARE.places, ())

    def test_papers_that_go_through_parts(self):
        # The wire was broken on day 0, and it is not in the machine any more; there is no other break.
        house = House(WIRE.catalogue, (("wire", WIRE),))
        house.enter(("come", "pass", "old"), ("come", "cell", "new"), ("come", "pass", "new"),
                    ("build", "m", "wire", (0, 1)),
                    ("told", 4, "old", 1, 1), ("told", 4, "new", 0, 0), ("swap", "m", "g", 2), ("day",))
        papers = self.assert_clear(house, "m")
        self.assertEqual(len(papers), 5)
        self.assertGreater(max(many_papers(paper) for _, paper in papers), 4)

    def test_worlds_in_which_it_acts_all_the_same(self):
        # The cell is stuck, but not as the exit shows it, when the wire gives 0 for ever; with 1 break that is not so.
        house = wire_house(most=2)
        house.enter(("swap", "m", "g", 2), ("seen", 7, "m", ((1,), (1,)), ((1, "g", 1),)), ("told", 7, "old", 0, 0),
                    ("told", 7, "new", 0, 0))
        papers = self.assert_clear(house, "m")
        self.assertEqual(len(worlds(house)), 1)
        self.assertTrue(all(many_papers(paper) >= 1 for _, paper in papers))

    def test_as_told_for_many_houses(self):
        clear = unclear = 0
        for house in [told for house in many_wire_houses(501, 120) for told in (house, heard(house, 0), heard(house, 1))]:
            left = plain_worlds(house, house.now)
            for name, _, _, _ in house.floor().machines:
                if not left:
                    self.assertEqual(error_of(clearance, house, name), ("NoWorld", house.now))
                elif any(not plain_acts(*plain_filling(house, name, world)) for world in left):
                    self.assertIsNone(clearance(house, name))
                    unclear += 1
                else:
                    papers = self.assert_clear(house, name)
                    clear += len(papers) > 0
        self.assertGreater(clear, 20)
        self.assertGreater(unclear, 50)

    def test_calls_and_clearance_agree(self):
        for house in many_wire_houses(501, 120):
            if plain_worlds(house, house.now):
                called = [name for name, _, _ in called_back(house)]
                for name, _, _, inside in house.floor().machines:
                    self.assertEqual(name in called, not inside and clearance(house, name) is None)
                for name, world, row in called_back(house):
                    self.assertEqual(Acting(*plain_filling(house, name, world)).row, row)
