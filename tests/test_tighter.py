import itertools
import unittest

from sentnext.stories import latest
from sentnext.tighter import best_table, least_rest, most_lag, parted, stairs
from tests.values import (
    BIG, H, HOUSES, NEW, T, TABLES, WAITS, courses, fitting, same, small_tables, told_answers,
    told_askers, told_asks, told_standing, told_story, told_turns,
)

NAMED = (("named", 0, 0),)
NEXT = (("next", 0, 0),)
FAR = [1, 2, 3, 4, 5, 8, 12, 1000]


def told_best(numbers, moments, best):
    """The best of the rests or lags that are served in so many moments, by their latest; None if none is."""
    fitted = [part for part, number in numbers.items() if number is not None and number <= moments]
    return best(fitted) if fitted else None


def told_lags(house, table):
    """For each lag with which it is a house, latest."""
    lags = [lag for lag in range(4) if (house[0], house[1], lag) in HOUSES]
    return {lag: latest((house[0], house[1], lag), table) for lag in lags}


def told_rests(house, table):
    """For each rest, latest."""
    return {rest: latest((house[0], rest, house[2]), table) for rest in range(1, 7)}


class LeastRest(unittest.TestCase):
    def test_ordinary(self):
        self.assertTrue(same(latest((3, 2, 1), NAMED), 4))
        self.assertTrue(same(latest((3, 3, 1), NAMED), 3))
        self.assertTrue(same(least_rest(H, NAMED, 4), 2))
        self.assertTrue(same(least_rest(H, NAMED, 3), 3))

    def test_where_none_will_do(self):
        self.assertIsNone(least_rest(H, NAMED, 2))
        self.assertIsNone(least_rest(H, NAMED, 1))
        for house, table in fitting(HOUSES[::5], WAITS):
            for moments in (1, 7, BIG):
                self.assertIsNone(least_rest(house, table, moments))

    def test_the_rest_of_the_house_does_not_matter(self):
        for rest, moments in itertools.product(range(1, 7), FAR):
            told = least_rest((3, 1, 1), T, moments)
            self.assertTrue(same(least_rest((3, rest, 1), T, moments), told))

    def test_the_least_of_all_rests(self):
        houses = [house for house in HOUSES if house[1] == 4]
        for house, table in fitting(houses, TABLES + small_tables(2)[::37]):
            numbers = told_rests(house, table)
            for moments in FAR:
                told = told_best(numbers, moments, min)
                self.assertTrue(same(least_rest(house, table, moments), told), (house, table, moments))


class MostLag(unittest.TestCase):
    def test_ordinary(self):
        numbers = [latest((3, 3, lag), NAMED) for lag in range(4)]
        self.assertEqual(numbers, [3, 3, 4, 4])
        self.assertTrue(same(most_lag((3, 3, 0), NAMED, 3), 1))
        self.assertTrue(same(most_lag((3, 3, 0), NAMED, 4), 3))
        self.assertTrue(same(most_lag((3, 3, 3), NAMED, 3), 1))

    def test_where_none_will_do(self):
        self.assertIsNone(most_lag((3, 3, 0), NAMED, 2))
        self.assertIsNone(most_lag((3, 1, 0), NAMED, 1000))
        for house, table in fitting(HOUSES[::5], WAITS):
            self.assertIsNone(most_lag(house, table, BIG))

    def test_a_lag_of_0_is_told_as_such(self):
        self.assertEqual(told_lags(H, NAMED), {0: 3, 1: 4, 2: 5, 3: 5})
        self.assertTrue(same(most_lag(H, NAMED, 3), 0))
        self.assertTrue(same([most_lag(H, NAMED, moments) for moments in (4, 5, BIG)], [1, 3, 3]))

    def test_lags_with_which_it_would_be_no_house(self):
        self.assertTrue(same(most_lag((4, 6, 0), NAMED, 1000), 2))
        self.assertTrue(same(most_lag((3, 6, 0), NAMED, 1000), 3))
        self.assertTrue(same(most_lag((2, 6, 0), NAMED, 1000), 3))

    def test_lags_beyond_what_callers_ask_of(self):
        # With a lag of 3 the rows of heads times the rows of the table are more than 200.
        for rest in (1, 2, 6):
            for table in (TABLES[3] + TABLES[4], NAMED * 6, TABLES[3] * 2):
                told = told_best(told_lags((3, rest, 0), table), 50, max)
                self.assertTrue(same(most_lag((3, rest, 0), table, 50), told), (rest, table))

    def test_the_greatest_of_all_lags(self):
        houses = [house for house in HOUSES if house[2] == 1 and house[1] != 5]
        for house, table in fitting(houses, TABLES + small_tables(2)[::47]):
            numbers = told_lags(house, table)
            for moments in (2, 3, 4, 5, 9):
                told = told_best(numbers, moments, max)
                self.assertTrue(same(most_lag(house, table, moments), told), (house, table, moments))


class Stairs(unittest.TestCase):
    def test_ordinary(self):
        self.assertTrue(same(stairs(H, NAMED), ((2, 4), (3, 3))))
        self.assertTrue(same(stairs((3, 6, 2), NAMED), ((2, 5), (3, 4), (4, 3))))
        self.assertTrue(same(stairs((2, 1, 0), NAMED), ((2, 3),)))

    def test_where_there_is_none(self):
        for house, table in fitting(HOUSES[::5], WAITS):
            self.assertTrue(same(stairs(house, table), ()))

    def test_all_rests(self):
        for house, table in fitting(HOUSES[::6] + [(4, 3, 2)], TABLES + small_tables(2)[::19]):
            told = []
            for rest in range(1, 7):
                number = latest((house[0], rest, house[2]), table)
                if number is not None and all(number < one for _, one in told):
                    told.append((rest, number))
            self.assertTrue(same(stairs(house, table), tuple(told)), (house, table))

    def test_steps_that_are_no_lower_are_left_out(self):
        for house, table in [(H, NAMED), ((4, 1, 1), NAMED), ((3, 1, 3), NAMED)]:
            told = stairs(house, table)
            numbers = [latest((house[0], rest, house[2]), table) for rest in range(1, 7)]
            self.assertLess(len(told), len([number for number in numbers if number is not None]))
            self.assertEqual(len({number for _, number in told}), len(told))


def told_deed(house, table, asker):
    """The server that is asked, or None."""
    return told_asks(house, table[asker[0]], asker)


def told_parted(house, table, other):
    """The least number of moments behind which both do unlike things; None if that never is."""
    lag = house[2]
    if told_deed(house, table, NEW) != told_deed(house, other, NEW):
        return 0
    begun = [told_standing(house, course, lag, NEW) for course in courses(house, lag + 1)]
    layer = {(heads, hold, NEW, NEW) for heads, hold, _ in begun}
    seen = set(layer)
    moments = 0
    while layer:
        moments += 1
        later = set()
        for heads, hold, one, two in layer:
            ways = dict(told_answers(house, table, heads[::-1], lag, one))
            others = dict(told_answers(house, other, heads[::-1], lag, two))
            for pair, new in ways.items():
                if new is not None and told_deed(house, table, new) != told_deed(house, other, others[pair]):
                    return moments
                if new is not None:
                    later |= {turn + (new, others[pair]) for turn in told_turns(house, heads, hold)}
        layer = later - seen
        seen |= layer
    return None


class Parted(unittest.TestCase):
    def as_told(self, house, table, other):
        """parted says of two tables what the document says; the number of moments is returned."""
        told = told_parted(house, table, other)
        got = parted(house, table, other)
        if told is None:
            self.assertIsNone(got, (house, table, other))
        elif told == 0:
            self.assertTrue(same(got, ()), (house, table, other, got))
        else:
            self.assertTrue(isinstance(got, tuple) and len(got) == 2, (house, table, other))
            self.assertEqual(len(got[1]), told, (house, table, other))
            self.parts(house, table, other, got)
        return told

    def parts(self, house, table, other, story):
        """The story is one of both, not served, and they do unlike things behind it."""
        self.assertTrue(told_story(house, table, story) and told_story(house, other, story))
        one = told_askers(house, table, story)[-1]
        two = told_askers(house, other, story)[-1]
        self.assertTrue(one is not None and two is not None)
        self.assertNotEqual(told_deed(house, table, one), told_deed(house, other, two))

    def test_a_table_and_itself(self):
        for house, table in fitting(HOUSES, TABLES + WAITS):
            self.assertIsNone(parted(house, table, table))

    def test_unlike_at_first(self):
        wait = WAITS[0]
        for house in HOUSES:
            for table, other in [(NAMED, wait), (wait, NAMED), (NEXT, wait), (T, wait)]:
                self.assertTrue(same(parted(house, table, other), ()))
            # Both ask server 0 at first.
            self.assertFalse(same(parted(house, NAMED, NEXT), ()))

    def test_unlike_behind_one_answer(self):
        house = (3, 1, 0)
        course, pairs = parted(house, NAMED, NEXT)
        self.assertTrue(same((course, pairs), ((2,), ((0, 2),))))
        self.assertTrue(same(parted(house, NAMED, (("named", 1, 1), ("wait", 1, 1)))[1], ((0, 1),)))

    def test_unlike_later(self):
        # With two servers the next one is the named one, until somebody waits.
        house = (2, 2, 0)
        other = (("named", 1, 1), ("next", 2, 2), ("named", 3, 3), ("wait", 3, 3))
        self.assertEqual(self.as_told(house, NAMED, NEXT), None)
        self.assertEqual(self.as_told((2, 1, 0), NAMED, other), 3)
        self.assertEqual(self.as_told(house, NAMED, other), None)
        waits = tuple(("wait", at + 1, 0) for at in range(5))
        self.assertEqual(self.as_told(house, waits + (("wait", 0, 0),), waits + (("named", 0, 0),)), 5)

    def test_unlike_behind_again_alone(self):
        # Row 1 is come to where the server named is the one asked ahead, so behind two asks at least.
        for house in HOUSES:
            self.assertEqual(self.as_told(house, T, (("named", 0, 1), ("wait", 0, 0))), 2)

    def test_waits_of_unlike_lengths(self):
        def turns(rows):
            return tuple(("wait", (at + 1) % rows, 0) for at in range(rows - 1)) + (("wait", 0, 0),)
        for one, two in itertools.product(range(1, 7), repeat=2):
            self.assertIsNone(parted((2, 3, 1), turns(one), turns(two)))
        asking = turns(5)[:4] + (("named", 0, 0),)
        self.assertEqual(self.as_told((2, 1, 0), asking, turns(6)), 4)

    def test_unlike_never(self):
        table = (("named", 1, 2), ("next", 2, 0), ("wait", 0, 1))
        for other in [
            # The rows behind row 0 in another order; a row that nothing leads to; a row twice.
            (("named", 2, 1), ("wait", 0, 2), ("next", 1, 0)),
            table + (("next", 3, 3),),
            (("named", 1, 2), ("next", 2, 0), ("wait", 3, 1), ("named", 1, 2)),
        ]:
            for house in [(2, 1, 0), H, (3, 1, 1), (2, 4, 2), (4, 2, 1)]:
                self.assertIsNone(parted(house, table, other))
                self.assertIsNone(parted(house, other, table))

    def test_again_of_a_wait_does_not_matter(self):
        table = (("wait", 1, 0), ("named", 0, 1))
        self.assertIsNone(parted(H, table, (("wait", 1, 1), ("named", 0, 1))))

    def test_pairs_of_tables(self):
        small = small_tables(1) + small_tables(2)
        for house, step in [((2, 1, 0), 41), ((2, 2, 1), 67), (H, 149), ((3, 1, 1), 211), ((2, 3, 2), 97)]:
            told = [self.as_told(house, one, two) for one, two in list(itertools.product(small, repeat=2))[::step]]
            self.assertLessEqual({None, 0, 1, 2}, set(told))

    def test_larger_tables(self):
        table = (("named", 1, 2), ("next", 2, 3), ("named", 3, 4), ("next", 4, 5), ("named", 5, 0), ("wait", 0, 1))
        for house in [(2, 1, 3), (3, 1, 1), (4, 2, 1), (3, 6, 2)]:
            for at, deed in itertools.product(range(6), ("named", "next", "wait")):
                other = table[:at] + ((deed,) + table[at][1:],) + table[at + 1:]
                self.as_told(house, table, other)


class BestTable(unittest.TestCase):
    def test_every_house_that_may_be_asked_of(self):
        tables = sorted(small_tables(1) + small_tables(2))
        self.assertEqual(len(tables), 3 + 12 ** 2)
        for house in HOUSES:
            if house[0] ** (house[2] + 1) <= 9:
                numbers = [(latest(house, table), table) for table in tables]
                least = min([number for number, _ in numbers if number is not None], default=None)
                told = [table for number, table in numbers if number == least][0] if least else None
                self.assertTrue(same(best_table(house), told), house)

    def test_none_where_none_is_surely_served(self):
        for house in [(2, 1, 0), (2, 1, 1), (2, 1, 2), (3, 1, 0), (3, 1, 1), (4, 1, 0)]:
            self.assertIsNone(best_table(house))

    def test_of_several_the_first_one(self):
        two = (("named", 0, 0), ("named", 0, 0))
        self.assertEqual(latest((3, 2, 0), NAMED), latest((3, 2, 0), two))
        self.assertTrue(same(best_table((3, 2, 0)), NAMED))


if __name__ == "__main__":
    unittest.main()
