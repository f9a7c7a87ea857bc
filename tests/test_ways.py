import copy
import itertools
import unittest

from sentnext.checker import is_sure
from sentnext.errors import NotSure
from sentnext.ways import is_way, soonest, way
from tests.values import (
    BIG, HOUSES, ODD, courses, replaced, same, small_ways, told_names, unserved,
)

SMALL = [house for house in HOUSES if house[0] ** (house[2] + 1) <= 9]
WAY = ((0, (-1, 1)), (1, (2, -1)), (0, (-1, -1)))
WIDE = ((2, (1, 2, -1)), (-1, (3,)), (0, (-1, 3, -1)), (1, (4, -1, -1)), (0, (-1, -1, -1)))


def waiting(rows):
    """A way of so many rows that waits all the while."""
    return tuple((-1, (at + 1,)) for at in range(rows - 1)) + ((-1, (-1,)),)


def told_row(house, row, number, rows):
    """Whether a deed and a tuple of integers are a row of a way, as the document says it."""
    deed, nexts = row
    if deed not in range(-1, house[0]) or len(nexts) != (1 if deed == -1 else house[0]):
        return False
    if deed != -1 and nexts[deed] != -1:
        return False
    return all(one == -1 or number < one < rows for one in nexts)


def told_served(house, futures, found):
    """Whether it can surely be served in all of these courses, each of the lag and the moments left."""
    lag = house[2]
    if not futures or len(min(futures)) == lag:
        return not futures
    if futures not in found:
        # To wait is to go on with every course; so is an answer with each in which it may be given.
        found[futures] = told_served(house, frozenset(one[1:] for one in futures), found) or any(
            all(
                told_served(house, frozenset(
                    one[1:] for one in futures if name in told_names(house, one, lag, server)
                ), found)
                for name in range(house[0])
            )
            for server in range(house[0])
        )
    return found[futures]


def told_soonest(house):
    """The least number of moments in which it can surely be served, all courses gone through; or None."""
    for moments in range(1, 7):
        if told_served(house, frozenset(courses(house, house[2] + moments)), {}):
            return moments
    return None


class IsWay(unittest.TestCase):
    def refused(self, house, values):
        for value in values:
            self.assertIs(is_way(house, value), False, str(value)[:200])

    def test_ordinary(self):
        for house in [(2, 2, 0), (2, 6, 2), (2, 1, 1)]:
            self.assertIs(is_way(house, WAY), True)
        for house in [(3, 2, 0), (3, 1, 1)]:
            self.assertIs(is_way(house, WIDE), True)
            self.assertIs(is_way(house, WAY), False)

    def test_one_row(self):
        for row in [(-1, (-1,)), (0, (-1, -1)), (1, (-1, -1))]:
            self.assertIs(is_way((2, 2, 0), (row,)), True)
        self.assertIs(is_way((4, 2, 0), ((3, (-1, -1, -1, -1)),)), True)

    def test_none_and_so_many_rows(self):
        self.refused((2, 2, 0), [()])
        for rows in (1, 2, 60, 199, 200):
            self.assertIs(is_way((2, 2, 0), waiting(rows)), True)
        for rows in (201, 202, 1000):
            self.refused((2, 2, 0), [waiting(rows)])

    def test_rows_that_nothing_leads_to(self):
        for rows in range(1, 201):
            self.assertIs(is_way((3, 1, 1), ((0, (-1, -1, -1)),) * rows), True)
        self.assertIs(is_way((2, 2, 0), ((0, (-1, 2)), (-1, (-1,)), (1, (-1, -1)))), True)
        self.refused((3, 1, 1), [((0, (-1, -1, -1)),) * 201])

    def test_nexts_of_a_wrong_length(self):
        for deed, many in itertools.product(range(-1, 3), range(6)):
            value = ((deed, (-1,) * many),)
            self.assertIs(is_way((3, 2, 0), value), many == (1 if deed == -1 else 3), value)

    def test_numbers_of_rows(self):
        # Of five rows each leads, by each number, to the rows behind it or to none.
        for at, number in itertools.product(range(5), range(-7, 12)):
            fine = number == -1 or at < number < 5
            for row in [(-1, (number,)), (0, (-1, number)), (1, (number, -1))]:
                value = ((0, (-1, -1)),) * at + (row,) + ((0, (-1, -1)),) * (4 - at)
                self.assertIs(is_way((2, 2, 0), value), fine, value)

    def test_the_place_of_the_asked_one(self):
        for server, number in itertools.product(range(3), (-2, 0, 1, 2, BIG)):
            nexts = [-1, -1, -1]
            nexts[server] = number
            self.refused((3, 2, 0), [((server, tuple(nexts)), (-1, (-1,)), (-1, (-1,)))])

    def test_deeds(self):
        for deed in [-3, -2, 2, 3, 4, BIG, -BIG]:
            self.refused((2, 2, 0), [((deed, (-1, -1)),), ((deed, (-1,)),), ((deed, (-1, -1, -1)),)])
        self.refused((2, 2, 0), [(("named", (-1, -1)),), ((None, (-1,)),), (((0,), (-1, -1)),)])

    def test_rows_that_are_no_pairs(self):
        for row in [(), (0,), (0, (-1, -1), -1), 0, -1, "0", None, True, [0, (-1, -1)], ((0, (-1, -1)),)]:
            self.refused((2, 2, 0), [(row,), WAY + (row,), (row,) + WAY])
        self.refused((2, 2, 0), [(0, (-1, -1)), ((0, -1),), ((-1, -1),), ((0, None),), ((0, "-1"),)])

    def test_other_kinds_in_one_place(self):
        for value in [WAY, ((1, (1, -1)), (0, (-1, -1))), ((-1, (1,)), (1, (-1, -1)))]:
            self.refused((2, 2, 0), replaced(value))
        self.refused((3, 2, 0), replaced(WIDE))

    def test_any_value(self):
        for house in [(2, 1, 0), (3, 3, 1), (4, 6, 0)]:
            odd_parts = [odd for odd in ODD if not same(odd, -1)]
            self.refused(house, ODD)
            self.refused(house, [(odd,) for odd in ODD] + [waiting(30) + (odd,) for odd in ODD])
            self.refused(house, [((odd, (-1,)),) for odd in odd_parts] + [((-1, (odd,)),) for odd in odd_parts])
            self.refused(house, [((-1, odd),) for odd in ODD] + [((0, (-1, odd)),) for odd in odd_parts])
            self.refused(house, [[[0, [-1, -1]]], list(waiting(3)), [waiting(3)], "way"])

    def test_all_small_values(self):
        house = (2, 3, 1)
        rows = [(deed, nexts) for deed in range(-2, 4) for many in range(4)
                for nexts in itertools.product(range(-2, 3), repeat=many)]
        found = 0
        for row in rows:
            found += self.as_told(house, (row,))
        short = [row for row in rows if row[0] in (-1, 1, 2) and len(row[1]) in (1, 2)]
        for value in itertools.product(short, repeat=2):
            found += self.as_told(house, value)
        # Of one row there are 3; of two rows the first one may lead on, the second one may not.
        self.assertEqual(found, 3 + 4 * 2)

    def as_told(self, house, value):
        """What is_way says of pairs of integers and tuples of such is what the document says."""
        told = all(told_row(house, row, at, len(value)) for at, row in enumerate(value))
        self.assertIs(is_way(house, value), told, value)
        return told

    def test_all_ways_of_few_rows(self):
        for house, most in [((2, 1, 2), 4), ((3, 6, 1), 2), ((4, 2, 0), 2)]:
            for rows in range(1, most + 1):
                for value in small_ways(house, rows):
                    self.assertIs(is_way(house, value), True, value)

    def test_nothing_is_changed(self):
        for value in [[list(row) for row in WAY], (0, [-1, 1]), [[], [[]]]]:
            before = copy.deepcopy(value)
            self.assertIs(is_way((2, 2, 0), value), False)
            self.assertTrue(same(value, before))


class Soonest(unittest.TestCase):
    def test_ordinary(self):
        # Ask one; ask whom it named; the head may have changed once more, but must stay then.
        self.assertTrue(same(soonest((2, 2, 0)), 3))
        self.assertTrue(same(soonest((4, 6, 0)), 3))
        # With a lag of 1 a rest of 2 leaves too little to be known of three servers.
        self.assertTrue(same(soonest((3, 2, 1)), 4))
        self.assertTrue(same(soonest((3, 3, 1)), 3))

    def test_none_where_the_head_may_change_all_the_time(self):
        for servers, lag in [(2, 0), (2, 1), (2, 2), (3, 0), (3, 1), (4, 0)]:
            self.assertIsNone(soonest((servers, 1, lag)))
            self.assertIsNone(way((servers, 1, lag)))

    def test_all_courses_gone_through(self):
        self.assertEqual(len(SMALL), 36)
        for house in SMALL:
            self.assertTrue(same(soonest(house), told_soonest(house)), house)

    def test_all_ways_of_two_servers_gone_through(self):
        # Of two servers only one can be named, so that a way is but a row of deeds.
        for house in [(2, 1, 0), (2, 2, 0), (2, 1, 1), (2, 2, 1), (2, 2, 2), (2, 5, 2)]:
            sure = [moments for moments in range(1, 7) if self.is_some_sure(house, moments)]
            self.assertEqual(soonest(house), min(sure, default=None), house)

    def is_some_sure(self, house, moments):
        for deeds in itertools.product((-1, 0, 1), repeat=moments):
            rows = []
            for at, deed in enumerate(deeds):
                later = at + 1 if at + 1 < moments else -1
                rows.append((deed, (later,) if deed == -1 else tuple(-1 if k == deed else later for k in range(2))))
            try:
                return is_sure(house, tuple(rows), moments)
            except NotSure:
                continue
        return False


class Way(unittest.TestCase):
    def test_none_together(self):
        for house in SMALL:
            self.assertEqual(soonest(house) is None, way(house) is None, house)

    def test_a_way_that_is_sure_so_soon_and_no_sooner(self):
        for house in SMALL:
            moments = soonest(house)
            if moments is not None:
                told = way(house)
                self.assertIs(is_way(house, told), True, house)
                self.assertIs(is_sure(house, told, moments), True, house)
                self.assertIs(is_sure(house, told, 60), True, house)
                with self.assertRaises(NotSure):
                    is_sure(house, told, moments - 1)

    def test_all_courses_gone_through(self):
        for house in SMALL:
            moments = soonest(house)
            if moments is not None:
                self.assertEqual(list(unserved(house, way(house), moments)), [], house)
                self.assertNotEqual(list(unserved(house, way(house), moments - 1)), [], house)

    def test_asked_again(self):
        for house in SMALL:
            self.assertTrue(same((soonest(house), way(house)), (soonest(house), way(house))), house)

    def test_houses_somewhat_beyond_the_bound(self):
        for house in [(2, 1, 3), (2, 4, 3), (3, 1, 2), (3, 2, 2), (3, 6, 2), (4, 1, 1), (4, 2, 1), (4, 3, 1)]:
            moments = soonest(house)
            self.assertEqual(moments is None, house[1] == 1)
            self.assertEqual(way(house) is None, house[1] == 1)
            if moments is not None:
                self.assertIs(is_way(house, way(house)), True)
                self.assertIs(is_sure(house, way(house), moments), True)


if __name__ == "__main__":
    unittest.main()
