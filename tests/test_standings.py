import itertools
import unittest

from sentnext.standings import firsts, goes_to, may_name
from tests.values import (
    H, HOUSES, NEW, T, TABLES, courses, same, told_behind, told_names, told_standing, told_turns,
)


def told_ways(house, table, moments):
    """For each standing that is come to within the moments, the set of those it leads to."""
    leads = {}
    lag = house[2]
    for course in courses(house, lag + 1 + moments):
        askers = {NEW}
        for moment in range(lag, lag + moments):
            later = set()
            for asker in askers:
                standing = told_standing(house, course, moment, asker)
                into = leads.setdefault(standing, set())
                for new in told_behind(house, table, course, moment, asker):
                    into.add(told_standing(house, course, moment + 1, new))
                    later.add(new)
            askers = later
    return leads


def shapes(house, table):
    """Every standing of the shape, those included that can't be come to."""
    servers, rest, lag = house
    askers = itertools.product(range(len(table)), range(servers), range(-1, servers))
    heads = itertools.product(range(servers), repeat=lag + 1)
    return itertools.product(heads, range(rest), askers)


class Firsts(unittest.TestCase):
    def test_no_lag(self):
        self.assertTrue(same(firsts((2, 1, 0)), (((0,), 0, NEW), ((1,), 0, NEW))))
        self.assertTrue(same(firsts((2, 6, 0)), (((0,), 0, NEW), ((1,), 0, NEW))))

    def test_a_lag_of_one(self):
        self.assertTrue(same(firsts((2, 3, 1)), (
            ((0, 0), 0, NEW), ((0, 1), 2, NEW), ((1, 0), 2, NEW), ((1, 1), 0, NEW))))

    def test_hold_falls_as_the_change_is_longer_ago(self):
        told = dict((heads, hold) for heads, hold, _ in firsts((2, 3, 3)))
        self.assertEqual(told[(1, 0, 0, 0)], 2)
        self.assertEqual(told[(1, 1, 0, 0)], 1)
        self.assertEqual(told[(1, 1, 1, 0)], 0)
        self.assertEqual(told[(1, 1, 1, 1)], 0)
        self.assertEqual(len(told), 8)

    def test_the_newest_head_stands_first(self):
        self.assertIn(((1, 0, 0), 2, NEW), firsts((2, 3, 2)))
        self.assertNotIn(((0, 0, 1), 2, NEW), firsts((2, 3, 2)))

    def test_rest_of_one_never_holds(self):
        for house in HOUSES:
            if house[1] == 1:
                told = firsts(house)
                self.assertEqual(len(told), house[0] ** (house[2] + 1))
                self.assertEqual({hold for _, hold, _ in told}, {0})

    def test_every_house(self):
        for house in HOUSES:
            lag = house[2]
            told = {told_standing(house, course, lag, NEW) for course in courses(house, lag + 1)}
            self.assertTrue(same(firsts(house), tuple(sorted(told))), house)
            # What comes behind the moment lag does not matter.
            longer = {told_standing(house, course, lag, NEW) for course in courses(house, lag + 2)}
            self.assertEqual(told, longer)


class MayName(unittest.TestCase):
    def test_ordinary(self):
        self.assertTrue(same(may_name(H, ((1, 0), 1, NEW), 2), (0, 1)))
        self.assertTrue(same(may_name(H, ((1, 0), 1, NEW), 0), (1,)))
        self.assertTrue(same(may_name(H, ((1, 0), 1, NEW), 1), ()))

    def test_as_names_wherever_a_course_leads(self):
        for house in HOUSES:
            lag = house[2]
            for course in courses(house, lag + 2):
                for moment in (lag, lag + 1):
                    standing = told_standing(house, course, moment, NEW)
                    for server in range(house[0]):
                        told = told_names(house, course, moment, server)
                        self.assertTrue(same(may_name(house, standing, server), told))

    def test_heads_that_no_course_has(self):
        self.assertTrue(same(may_name((3, 6, 2), ((2, 0, 1), 0, NEW), 0), (2,)))
        self.assertTrue(same(may_name((3, 6, 2), ((2, 0, 1), 5, NEW), 1), (0, 2)))
        self.assertTrue(same(may_name((3, 6, 3), ((2, 0, 2, 0), 3, NEW), 1), (0, 2)))
        self.assertTrue(same(may_name((3, 6, 3), ((2, 0, 2, 1), 3, NEW), 2), ()))
        for heads in itertools.product(range(3), repeat=3):
            for server in range(3):
                told = told_names((3, 6, 2), heads[::-1], 2, server)
                self.assertTrue(same(may_name((3, 6, 2), (heads, 0, NEW), server), told))

    def test_hold_and_asker_do_not_matter(self):
        for standing in shapes((3, 2, 1), T):
            told = may_name(H, (standing[0], 0, NEW), 2)
            self.assertEqual(may_name(H, standing, 2), told)


class GoesTo(unittest.TestCase):
    def test_hold_above_zero_keeps_the_head(self):
        self.assertTrue(same(goes_to(H, T, ((1, 0), 1, NEW)), (((1, 1), 0, (0, 1, 0)),)))
        self.assertTrue(same(goes_to((3, 6, 1), T, ((1, 0), 5, NEW)), (((1, 1), 4, (0, 1, 0)),)))

    def test_hold_of_zero_lets_any_head_come(self):
        self.assertTrue(same(goes_to(H, T, ((1, 1), 0, NEW)), (
            ((0, 1), 1, (0, 1, 0)), ((1, 1), 0, (0, 1, 0)), ((2, 1), 1, (0, 1, 0)))))

    def test_rest_of_one(self):
        house = (2, 1, 0)
        table = (("named", 0, 0),)
        self.assertTrue(same(goes_to(house, table, ((1,), 0, NEW)), (
            ((0,), 0, (0, 1, 0)), ((1,), 0, (0, 1, 0)))))

    def test_several_names(self):
        told = goes_to((3, 2, 1), T, ((1, 0), 1, (0, 2, 0)))
        self.assertTrue(same(told, (((1, 1), 0, (0, 1, 2)), ((1, 1), 0, (1, 0, 2)))))

    def test_wait(self):
        table = (("wait", 1, 0), ("named", 0, 0))
        told = goes_to(H, table, ((1, 0), 1, (0, 1, 2)))
        self.assertTrue(same(told, (((1, 1), 0, (1, 1, 2)),)))
        told = goes_to(H, table, ((0, 0), 0, NEW))
        self.assertTrue(same(told, (
            ((0, 0), 0, (1, 0, -1)), ((1, 0), 1, (1, 0, -1)), ((2, 0), 1, (1, 0, -1)))))

    def test_the_asked_one_heads(self):
        self.assertTrue(same(goes_to(H, T, ((0, 0), 0, NEW)), ()))
        self.assertTrue(same(goes_to(H, T, ((0, 1), 1, NEW)), ()))
        self.assertTrue(same(goes_to(H, T, ((2, 1), 1, (1, 0, 1))), ()))
        self.assertTrue(same(goes_to(H, T, ((0, 1), 1, (1, 1, 2))), ()))

    def test_standings_that_cannot_be_come_to(self):
        # Just changed, but with no hold; and long unchanged, but with a hold.
        self.assertTrue(same(goes_to((2, 3, 1), T, ((1, 0), 0, NEW)), (
            ((0, 1), 2, (0, 1, 0)), ((1, 1), 0, (0, 1, 0)))))
        self.assertTrue(same(goes_to((2, 3, 1), T, ((1, 1), 2, NEW)), (((1, 1), 1, (0, 1, 0)),)))
        # The one asked last is the one that is named, by nobody.
        self.assertTrue(same(goes_to((2, 1, 0), T, ((1,), 0, (0, 0, 0))), (
            ((0,), 0, (0, 1, 0)), ((1,), 0, (0, 1, 0)))))

    def test_every_standing_of_the_shape(self):
        for house in [(2, 1, 0), (2, 3, 1), H, (3, 6, 0), (2, 2, 3), (4, 2, 1), (3, 2, 2)]:
            for table in TABLES:
                for heads, hold, asker in shapes(house, table):
                    course = heads[::-1]
                    askers = told_behind(house, table, course, house[2], asker)
                    told = {(row, stays, new) for new in askers
                            for row, stays in told_turns(house, heads, hold)}
                    got = goes_to(house, table, (heads, hold, asker))
                    self.assertTrue(same(got, tuple(sorted(told))), (house, table, heads, hold, asker))

    def test_just_what_the_courses_and_answers_lead_to(self):
        for house in [(2, 1, 0), (2, 2, 1), (2, 3, 2), H, (3, 3, 1), (3, 1, 1), (2, 2, 3), (4, 2, 0)]:
            for table in TABLES:
                for standing, into in told_ways(house, table, 4).items():
                    self.assertEqual(goes_to(house, table, standing), tuple(sorted(into)))


if __name__ == "__main__":
    unittest.main()
