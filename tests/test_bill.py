import unittest

from tinkerhall.bill import Bill


class BillTest(unittest.TestCase):
    def test_bills(self):
        bill = Bill()
        self.assertEqual((bill.minutes, bill.price), (0, 0))
        bill = Bill(3, price=4) + Bill(minutes=5, price=6)
        self.assertEqual((bill.minutes, bill.price), (8, 10))
        bill = Bill(3, 4) - Bill(5, 1)
        self.assertEqual((bill.minutes, bill.price), (-2, 3))

    def test_equal_and_unchanged(self):
        one, two = Bill(3, 4), Bill(5, 6)
        self.assertIsInstance(one + two - two, Bill)
        self.assertEqual((one + two - two, one, two), (Bill(3, 4), Bill(3, 4), Bill(5, 6)))
        self.assertNotEqual(one, Bill(3, 5))
        self.assertNotEqual(one, Bill(2, 4))
        self.assertFalse(one == (3, 4))
