import unittest

from tests.raising import error_of
from tests.samples import CATALOGUE, CELL, GATE, JOIN, TURN
from tinkerhall.kinds import Catalogue, Kind

WAY = ("stands", "low", (0, 0))


class KindTest(unittest.TestCase):
    def test_attributes(self):
        kind = Kind(2, "gate", 1, [0, 1], start=None, ways=[["stands", "low", [0, 0]]], price=600)
        self.assertEqual((kind.signs, kind.name, kind.inputs, kind.table, kind.start, kind.ways, kind.price),
                         (2, "gate", 1, (0, 1), None, (WAY,), 600))
        plain = Kind(3, "one", 0, (2,))
        self.assertEqual((plain.start, plain.ways, plain.price, len(plain)), (None, (), 0, 0))
        # What was passed as a list is a tuple, at every depth.
        self.assertIs(type(kind.table), tuple)
        self.assertIs(type(kind.ways[0]), tuple)
        self.assertIs(type(kind.ways[0][2]), tuple)

    def test_keeps_and_length(self):
        self.assertIs(GATE.keeps, False)
        self.assertIs(CELL.keeps, True)
        self.assertIs(Kind(2, "zero", 0, (0, 1), start=0).keeps, True)
        self.assertEqual((len(GATE), len(CELL), len(TURN)), (3, 2, 1))

    def test_equal(self):
        def made(**other):
            told = {"signs": 2, "name": "one", "inputs": 1, "table": (0, 1, 0, 1), "start": 0,
                    "ways": (("stands", "low", (0, 0, 0, 0)),), "price": 5, **other}
            return Kind(told.pop("signs"), told.pop("name"), told.pop("inputs"), told.pop("table"), **told)
        self.assertEqual(made(), made(table=[0, 1, 0, 1], ways=[["stands", "low", [0] * 4]]))
        for other in ({"name": "two"}, {"table": (0, 1, 1, 1)}, {"start": 1}, {"price": 6}, {"ways": ()},
                      {"ways": (("flees", "low", (0, 0, 0, 0)),)}, {"ways": (("stands", "lo", (0, 0, 0, 0)),)},
                      {"inputs": 2, "start": None, "ways": ()}):
            self.assertNotEqual(made(), made(**other), other)
        self.assertNotEqual(Kind(2, "one", 0, (1,)), Kind(3, "one", 0, (1,)))
        self.assertFalse(made() == "one")
        self.assertFalse(made() == None)  # noqa: E711

    def test_spot(self):
        two = Kind(3, "two", 2, [0] * 27, start=0)
        self.assertEqual([two.spot((1, 2)), two.spot((1, 2), 2), two.spot([0, 1], kept=1)], [5, 23, 10])
        self.assertEqual(Kind(3, "one", 1, (0, 0, 0)).spot((2,)), 2)
        self.assertEqual(Kind(3, "none", 0, (0,)).spot(()), 0)
        self.assertEqual(Kind(3, "none", 0, (0, 0, 0), start=2).spot((), 2), 2)
        # Sizes of all tables: the spots are just the numbers of the entries.
        for inputs, size in ((0, 1), (1, 2), (2, 4)):
            self.assertIsNone(error_of(Kind, 2, "n", inputs, [0] * size))
            self.assertIsNone(error_of(Kind, 2, "n", inputs, [0] * (size * 2), start=0))

    def test_tables_and_flees(self):
        self.assertEqual(GATE.tables(0), ((0, 0, 0, 1),))
        self.assertEqual(GATE.tables(1), ((0, 0, 0, 0),))
        self.assertEqual(GATE.tables(2), ((0, 0, 0, 1), (1, 1, 1, 1)))
        self.assertEqual(GATE.tables(3), ((0, 0, 0, 1), (0, 0, 1, 1)))
        self.assertEqual([GATE.flees(condition) for condition in range(4)], [False, False, True, True])

    def test_bad_signs_go_first(self):
        for signs in (1, 4, 0, "2", None, True, (2,), 2.0):
            self.assertEqual(error_of(Kind, signs, "Bad", 9, None, price=-1), ("BadSigns", signs))
        told = [2]
        with self.assertRaises(ValueError) as caught:
            Kind(told, "a", 0, (0,))
        self.assertIs(caught.exception.signs, told)

    def test_bad_name_goes_second(self):
        for name in ("Bad", "", "abcdefghi", "signs", 4, None, ["a"]):
            self.assertEqual(error_of(Kind, 2, name, 9, None, price=-1), ("BadName", name))

    def test_bad_kind(self):
        self.assertEqual(error_of(Kind, 2, "a", 1, (0, 1), ways=(WAY,), price=600), None)
        for inputs, table, more in (
                (3, (0,) * 8, {}), (-1, (0,), {}), (True, (0, 1), {}), ("1", (0, 1), {}), (None, (0,), {}),
                (1, (0, 1, 1), {}), (1, (0,), {}), (1, (0, 2), {}), (1, (0, True), {}), (1, "01", {}), (1, None, {}),
                (1, ("0", "1"), {}), (1, (0, -1), {}), (1, (0, 1), {"start": 0}), (0, (0,), {"start": 0}),
                (1, (0, 1, 0, 1), {}), (1, (0, 1, 0, 1), {"start": 2}), (1, (0, 1, 0, 1), {"start": False}),
                (1, (0, 1, 0, 1), {"start": "0"}), (1, (0, 1), {"price": 601}), (1, (0, 1), {"price": -1}),
                (1, (0, 1), {"price": True}), (1, (0, 1), {"price": None}), (1, (0, 1), {"ways": None}),
                (1, (0, 1), {"ways": "stands"}), (1, (0, 1), {"ways": ("stands",)}), (1, (0, 1), {"ways": (WAY[:2],)}),
                (1, (0, 1), {"ways": (None,)}), (1, (0, 1), {"ways": (5,)}), (1, (0, 1), {"ways": ({0: 1, 1: 2, 2: 3},)}),
                (1, (0, 1, 0, 1), {"start": -1}),
                (1, (0, 1), {"ways": ((*WAY, 1),)}), (1, (0, 1), {"ways": (("stays", "low", (0, 0)),)}),
                (1, (0, 1), {"ways": (("stands", "Low", (0, 0)),)}), (1, (0, 1), {"ways": (("stands", "kind", (0, 0)),)}),
                (1, (0, 1), {"ways": (("stands", "low", (0, 1)),)}), (1, (0, 1), {"ways": (("stands", "low", [0, 1]),)}),
                (1, [0, 1], {"ways": (("flees", "low", (0, 1)),)}), (1, (0, 1), {"ways": (("stands", "low", (0,)),)}),
                (1, (0, 1), {"ways": (("stands", "low", (0, 0, 0)),)}), (1, (0, 1), {"ways": (("stands", "low", (2, 0)),)}),
                (1, (0, 1), {"ways": (("stands", "low", (False, 0)),)}), (1, (0, 1), {"ways": (WAY, ("flees", "low", (1, 1)))})):
            self.assertEqual(error_of(Kind, 2, "a", inputs, table, **more), ("BadKind", "a"), (inputs, table, more))

    def test_six_ways_and_seven(self):
        ways = [("stands", name, (0, 0)) for name in "abcdefg"]
        self.assertEqual(len(Kind(2, "a", 1, (0, 1), ways=ways[:6])), 6)
        self.assertEqual(error_of(Kind, 2, "a", 1, (0, 1), ways=ways), ("BadKind", "a"))

    def test_arguments_stay_as_they_are(self):
        table, ways = [0, 1], [["stands", "low", [0, 0]]]
        kind = Kind(2, "a", 1, table, ways=ways)
        table[0] = 1
        ways[0][2][0] = 1
        self.assertEqual((kind.table, kind.ways), ((0, 1), (WAY,)))


class CatalogueTest(unittest.TestCase):
    def test_attributes_items_and_iteration(self):
        catalogue = Catalogue(2, [GATE, CELL])
        self.assertEqual((catalogue.signs, catalogue.kinds), (2, (GATE, CELL)))
        self.assertIs(catalogue["cell"], CELL)
        self.assertEqual((len(catalogue), list(catalogue)), (2, [GATE, CELL]))
        self.assertEqual((Catalogue(3).kinds, len(Catalogue(3))), ((), 0))
        self.assertTrue("gate" in catalogue)
        for thing in ("turn", "", None, 1, ["gate"]):
            self.assertFalse(thing in catalogue)

    def test_unknown(self):
        for name in ("none", "Gate", None, 0, ["gate"]):
            self.assertEqual(error_of(CATALOGUE.__getitem__, name), ("Unknown", name))

    def test_equal(self):
        self.assertEqual(Catalogue(2, [GATE, CELL]), Catalogue(2, (GATE, CELL)))
        self.assertNotEqual(Catalogue(2, (GATE, CELL)), Catalogue(2, (CELL, GATE)))
        self.assertNotEqual(Catalogue(2), Catalogue(3))
        self.assertFalse(Catalogue(2) == ())

    def test_one_more(self):
        one = Catalogue(2, (GATE,))
        self.assertEqual(one + CELL, Catalogue(2, (GATE, CELL)))
        self.assertEqual(len(one), 1)
        self.assertEqual(error_of(lambda: one + GATE), ("Twice", "gate"))
        self.assertEqual(error_of(lambda: one + Kind(3, "three", 0, (0,))), ("Unlike", "three"))

    def test_errors_in_order(self):
        kinds = [Kind(2, name, 0, (0,)) for name in "abcdefgh"]
        three = Kind(3, "three", 0, (0,))
        self.assertEqual(error_of(Catalogue, 4, [*kinds, three]), ("BadSigns", 4))
        for signs in (1, True, "2", None):
            self.assertEqual(error_of(Catalogue, signs), ("BadSigns", signs))
        self.assertEqual(error_of(Catalogue, 2, [three, *kinds]), ("TooMany", "kind"))
        self.assertEqual(error_of(lambda: Catalogue(2, kinds) + three), ("TooMany", "kind"))
        self.assertEqual(len(Catalogue(2, kinds)), 8)
        self.assertEqual(error_of(Catalogue, 2, [GATE, GATE, three, three]), ("Unlike", "three"))
        self.assertEqual(error_of(Catalogue, 3, [GATE, three]), ("Unlike", "gate"))
        self.assertEqual(error_of(Catalogue, 2, [CELL, GATE, JOIN, GATE, CELL]), ("Twice", "gate"))
