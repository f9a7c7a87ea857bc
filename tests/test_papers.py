import itertools
import unittest

from sentnext.checker import is_ledger, is_ring
from sentnext.papers import ledger, ring
from sentnext.stories import latest
from tests.values import (
    H, HOUSES, NEW, T, TABLES, WAITS, courses, fitting, same, small_tables, told_graph,
    told_left, told_ring, told_standing,
)

NAMED = (("named", 0, 0),)
SIX = (("wait", 1, 2), ("next", 2, 3), ("named", 3, 4), ("next", 4, 5), ("named", 5, 0), ("next", 0, 1))


class Ring(unittest.TestCase):
    def test_the_example(self):
        self.assertTrue(told_ring((2, 1, 0), NAMED, ((1, 0, 1), ((0, 1), (1, 0), (0, 1)), 1)))
        self.assertTrue(told_ring((2, 1, 0), NAMED, ring((2, 1, 0), NAMED)))

    def test_the_examples_of_latest(self):
        self.assertIsNone(ring((3, 3, 1), T))
        self.assertTrue(told_ring(H, T, ring(H, T)))

    def test_a_ring_wherever_it_may_never_be_served(self):
        for house, table in fitting(HOUSES, TABLES + WAITS + small_tables(2)[3::29] + [SIX]):
            value = ring(house, table)
            self.assertEqual(value is None, latest(house, table) is not None, (house, table))
            if value is not None:
                self.assertTrue(isinstance(value, tuple) and len(value) == 3)
                self.assertTrue(told_ring(house, table, value), (house, table, value))
                self.assertIs(is_ring(house, table, value), True)

    def test_each_table_of_one_or_two_rows(self):
        for house in [(2, 1, 0), (2, 2, 0), (2, 2, 1), (3, 2, 0)]:
            for table in small_tables(1) + small_tables(2):
                value = ring(house, table)
                self.assertEqual(value is None, latest(house, table) is not None, (house, table))
                self.assertTrue(value is None or told_ring(house, table, value), (house, table, value))

    def test_waits_alone(self):
        for house, table in fitting(HOUSES, WAITS):
            course, pairs, begin = ring(house, table)
            self.assertTrue(told_ring(house, table, (course, pairs, begin)))
            self.assertEqual(set(pairs), {(-1, -1)})

    def test_rest_of_one_with_no_lag(self):
        for servers, table in itertools.product((2, 3, 4), TABLES + WAITS):
            house = (servers, 1, 0)
            self.assertTrue(told_ring(house, table, ring(house, table)), (house, table))

    def test_rings_that_begin_late(self):
        # The first row is left for ever, so no ring can begin there.
        table = (("wait", 1, 0), ("wait", 2, 0), ("wait", 3, 0), ("wait", 2, 0))
        for house in [(2, 1, 0), (2, 1, 1), (3, 3, 2), (2, 6, 3)]:
            value = ring(house, table)
            self.assertTrue(told_ring(house, table, value))
            self.assertGreaterEqual(value[2], house[2] + 2)


class Ledger(unittest.TestCase):
    def test_a_small_one(self):
        self.assertTrue(same(ledger((2, 2, 0), NAMED), (
            (((0,), 0, (0, 0, -1)), 1), (((0,), 0, (0, 0, 1)), 1), (((0,), 1, (0, 1, 0)), 2),
            (((1,), 0, (0, 0, -1)), 3), (((1,), 0, (0, 1, 0)), 1))))
        self.assertIsNone(ledger((2, 1, 0), NAMED))

    def test_the_examples_of_latest(self):
        self.assertIsNone(ledger(H, T))
        self.assertEqual(max(number for _, number in ledger((3, 3, 1), T)), 4)

    def test_just_one_of_a_ledger_and_a_ring(self):
        for house, table in fitting(HOUSES, TABLES + WAITS + small_tables(2)[1::23] + [SIX]):
            self.assertEqual(ledger(house, table) is None, ring(house, table) is not None, (house, table))

    def test_all_standings_that_can_be_come_to_and_no_other(self):
        for house, table in fitting(HOUSES, TABLES + WAITS + small_tables(2)[2::31]):
            left = told_left(told_graph(house, table), lambda _: 1)
            told = None if left is None else tuple(sorted(left.items()))
            self.assertTrue(same(ledger(house, table), told), (house, table))

    def test_each_table_of_one_or_two_rows(self):
        for house in [(2, 1, 0), (2, 2, 0), (2, 2, 1), (3, 2, 0)]:
            for table in small_tables(1) + small_tables(2):
                left = told_left(told_graph(house, table), lambda _: 1)
                told = None if left is None else tuple(sorted(left.items()))
                self.assertTrue(same(ledger(house, table), told), (house, table))

    def test_its_greatest_number_at_first_is_the_latest(self):
        for house, table in fitting(HOUSES, TABLES):
            value = ledger(house, table)
            if value is not None:
                numbers = dict(value)
                begun = [told_standing(house, course, house[2], NEW) for course in courses(house, house[2] + 1)]
                self.assertEqual(max(numbers[standing] for standing in begun), latest(house, table))
                self.assertIs(is_ledger(house, table, value), True)

    def test_waits_alone(self):
        for house, table in fitting(HOUSES, WAITS):
            self.assertIsNone(ledger(house, table))


if __name__ == "__main__":
    unittest.main()
