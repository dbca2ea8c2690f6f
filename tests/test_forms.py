import unittest

from tinkerhall.forms import are_different, as_tuples, is_count, is_number


class FormsTest(unittest.TestCase):
    def test_as_tuples(self):
        self.assertEqual(as_tuples([1, [2, [], (3, [4])], "ab", [[]]]), (1, (2, (), (3, (4,))), "ab", ((),)))
        self.assertEqual((as_tuples([]), as_tuples("ab"), as_tuples(None), as_tuples(())), ((), "ab", None, ()))
        deep = []
        for _ in range(5000):
            deep = [deep]
        told = as_tuples(deep)
        for _ in range(5000):
            self.assertIsInstance(told, tuple)
            told = told[0]
        self.assertEqual(told, ())

    def test_integers(self):
        self.assertEqual([is_count(thing) for thing in (0, 10 ** 39, -1, True, False, "0", None)],
                         [True, True] + [False] * 5)
        self.assertEqual([is_number(thing, 1, 3) for thing in (0, 1, 3, 4, True, "2")], [False, True, True] + [False] * 3)

    def test_different(self):
        self.assertTrue(are_different([]) and are_different([1, 2, "a"]))
        self.assertFalse(are_different([1, [2], [2]]))
