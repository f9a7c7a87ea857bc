import copy
import itertools
import unittest

from sentnext.stories import is_story, latest, latest_story, most
from tests.values import (
    BIG, H, HOUSES, NEW, ODD, T, TABLES, WAITS, courses, fitting, replaced, same, small_tables,
    told_asks, told_graph, told_left, told_plays, told_standing, told_stories, told_story,
)

STORY = ((1, 1, 0, 0, 0), ((0, 1), (1, 0), (2, 0), (0, -1)))
HOUSE = (3, 3, 1)
WAITING = (("wait", 1, 0), ("named", 1, 1))


def told_latest(house, table, many):
    """The greatest numbers of moments and of asks, all plays gone through; None if one isn't served."""
    moments = asks = 0
    for course in courses(house, house[2] + many):
        for pairs, asker in told_plays(house, table, course):
            if asker is not None:
                return None
            moments = max(moments, len(pairs))
            asks = max(asks, sum(server != -1 for server, _ in pairs))
    return moments, asks


def asks_cost(house, table):
    """What each standing costs where asks are counted."""
    return lambda standing: 0 if told_asks(house, table[standing[2][0]], standing[2]) is None else 1


def greatest_at_first(house, left):
    """The greatest of the numbers at the first standings; None where there are no numbers."""
    if left is None:
        return None
    lag = house[2]
    return max(left[told_standing(house, course, lag, NEW)] for course in courses(house, lag + 1))


class IsStory(unittest.TestCase):
    def refused(self, house, table, values):
        for value in values:
            self.assertIs(is_story(house, table, value), False, str(value)[:200])

    def test_the_example(self):
        self.assertIs(is_story(HOUSE, T, STORY), True)

    def test_it_may_end_ahead_of_being_served(self):
        course, pairs = STORY
        for many in (1, 2, 3):
            self.assertIs(is_story(HOUSE, T, (course[:many + 1], pairs[:many])), True)

    def test_no_moment_behind_being_served(self):
        course, pairs = STORY
        for pair in [(0, -1), (0, 0), (-1, -1), (1, 0), (0, 1), (2, 0)]:
            for head in (0, 1, 2):
                self.refused(HOUSE, T, [(course + (head,), pairs + (pair,))])
        self.refused((2, 1, 0), T, [((0, 0), ((0, -1), (0, -1))), ((0, 1), ((0, -1), (0, 1)))])

    def test_another_server_asked(self):
        course, pairs = STORY
        for at, (server, name) in enumerate(pairs):
            for other in (-1, 0, 1, 2, 3, BIG):
                if other != server:
                    self.refused(HOUSE, T, [(course, pairs[:at] + ((other, name),) + pairs[at + 1:])])

    def test_a_name_that_may_not_be_named(self):
        course, pairs = STORY
        for at, (server, name) in enumerate(pairs):
            for other in (-2, -1, 0, 1, 2, 3, -BIG):
                # In this course each server that is asked may name but one.
                value = (course, pairs[:at] + ((server, other),) + pairs[at + 1:])
                self.assertIs(is_story(HOUSE, T, value), other == name, value)

    def test_each_name_that_the_lag_allows(self):
        table = (("wait", 1, 1), ("next", 2, 2), ("next", 0, 0))
        for first, second in itertools.product((-1, 0, 1, 2), repeat=2):
            value = ((2, 2, 1, 1), ((-1, -1), (0, first), (1, second)))
            self.assertIs(is_story(H, table, value), first in (1, 2) and second == -1, value)

    def test_waits(self):
        self.assertIs(is_story((2, 2, 0), WAITING, ((0, 0), ((-1, -1), (0, -1)))), True)
        self.assertIs(is_story((2, 2, 0), WAITING, ((1, 0), ((-1, -1), (0, -1)))), True)
        self.assertIs(is_story((2, 2, 0), WAITING, ((1, 1), ((-1, -1), (0, 1)))), True)
        for pair in [(0, -1), (-1, 0), (-1, 1), (0, 1), (1, 0), (0, 0)]:
            self.refused((2, 2, 0), WAITING, [((0, 0), (pair, (0, -1))), ((1,), (pair,))])

    def test_none_told_where_somebody_is_asked(self):
        course, pairs = STORY
        for at in range(len(pairs)):
            self.refused(HOUSE, T, [(course, pairs[:at] + ((-1, -1),) + pairs[at + 1:])])
            self.refused(HOUSE, T, [(course[:at + 2], pairs[:at] + ((-1, -1),))])

    def test_a_pair_left_out_or_told_twice(self):
        course, pairs = STORY
        for at in range(len(pairs)):
            self.refused(HOUSE, T, [(course, pairs[:at] + pairs[at + 1:])])
            self.refused(HOUSE, T, [(course, pairs[:at + 1] + pairs[at:])])
        self.refused(HOUSE, T, [(course, ()), (course[:1], ()), (course[:1], pairs[:1])])

    def test_a_course_that_is_none_or_too_short(self):
        course, pairs = STORY
        self.refused(HOUSE, T, [((), ()), ((1,), ()), ((0, 1, 0, 0, 0), pairs), ((1, 1, 0, 0, 3), pairs)])
        self.refused(HOUSE, T, [((1, 1, 0, 0, 1), pairs), ((1, 1, 0, 1, 0), pairs), (course[1:], pairs)])
        for lag in (1, 2, 3):
            for many in range(lag + 1):
                self.refused((2, 1, lag), T, [((1,) * many, ()), ((1,) * many, ((0, 1),))])
            self.assertIs(is_story((2, 1, lag), T, ((1,) * (lag + 1), ((0, 1),))), True)

    def test_other_kinds_in_one_place(self):
        for house, table, story in [
            (HOUSE, T, STORY),
            ((2, 2, 0), WAITING, ((1, 0), ((-1, -1), (0, -1)))),
            ((2, 1, 0), (("named", 0, 0),), ((1, 0, 1), ((0, 1), (1, 0), (0, 1)))),
        ]:
            self.assertIs(is_story(house, table, story), True)
            self.refused(house, table, replaced(story))

    def test_other_shapes(self):
        course, pairs = STORY
        self.refused(HOUSE, T, [(course,), (pairs,), (course, pairs, 1), (pairs, course), pairs, course])
        for pair in [(), (0,), (0, 1, 1), 0, None, "01", (None, None), ("0", "1"), ((0,), (1,)), ((0, 1), ())]:
            self.refused(HOUSE, T, [(course[:2], (pair,)), (course[:3], pairs[:1] + (pair,))])

    def test_any_value(self):
        course, pairs = STORY
        self.refused(HOUSE, T, ODD)
        for value in ODD:
            self.refused(HOUSE, T, [(value, value), (course, value), (value, pairs), (value,)])
            self.refused(HOUSE, T, [(course, pairs[:-1] + (value,)), (course[:2], (value,))])
            if not same(value, 0):
                self.refused(HOUSE, T, [(course[:2], ((value, 1),))])
            if not same(value, 1):
                self.refused(HOUSE, T, [(course[:2], ((0, value),))])

    def test_far_stories(self):
        heads = (1,) * 9000
        table = (("wait", 0, 0),)
        self.assertIs(is_story((2, 6, 3), table, (heads, ((-1, -1),) * 8997)), True)
        self.assertIs(is_story((2, 6, 3), table, (heads, ((-1, -1),) * 8996 + ((0, 1),))), False)

    def test_just_the_stories_among_all_short_pairs(self):
        for house, many, tables in [
            ((2, 1, 0), 3, TABLES[:4]), ((2, 2, 0), 3, TABLES[3:]), ((2, 2, 1), 2, TABLES),
            ((3, 1, 0), 2, TABLES), (H, 1, TABLES),
        ]:
            places = range(-1, house[0])
            every = list(itertools.product(places, places))
            for table, moments in itertools.product(tables, range(1, many + 1)):
                right = {story for story, _ in told_stories(house, table, moments)}
                for heads in itertools.product(range(house[0]), repeat=house[2] + moments):
                    for pairs in itertools.product(every, repeat=moments):
                        told = is_story(house, table, (heads, pairs))
                        self.assertIs(told, (heads, pairs) in right, (house, table, heads, pairs))

    def test_every_story_of_some_moments(self):
        for house in [(2, 3, 2), H, (2, 2, 3), (3, 2, 1), (4, 2, 0)]:
            for table in TABLES:
                for moments in (1, 3, 4):
                    for story, _ in told_stories(house, table, moments):
                        self.assertIs(is_story(house, table, story), True, (house, table, story))

    def test_a_list_stays_as_it_was(self):
        course, pairs = STORY
        for value in [[course, pairs], (course, list(pairs)), (list(course), pairs), (course, ([0, 1],))]:
            before = copy.deepcopy(value)
            self.assertIs(is_story(HOUSE, T, value), False)
            self.assertTrue(same(value, before))


class Latest(unittest.TestCase):
    def test_the_example(self):
        self.assertTrue(same(latest(HOUSE, T), 4))
        self.assertTrue(same(most(HOUSE, T), 4))

    def test_the_example_in_which_it_may_never_be_served(self):
        self.assertIsNone(latest(H, T))
        self.assertIsNone(most(H, T))
        self.assertIsNone(latest_story(H, T))

    def test_waits_count_for_latest_but_not_for_most(self):
        self.assertTrue(same(latest((2, 2, 0), WAITING), 4))
        self.assertTrue(same(most((2, 2, 0), WAITING), 3))

    def test_most_asks_where_it_is_not_served_the_latest(self):
        # No play of 7 moments has 5 asks, but a shorter one has.
        for house, table, moments, asks in [
            (HOUSE, (("named", 3, 3), ("next", 0, 4), ("named", 4, 3), ("wait", 2, 2), ("named", 2, 1)), 7, 5),
            ((3, 4, 2), (("named", 3, 1), ("wait", 0, 3), ("next", 3, 0), ("named", 1, 2)), 6, 5),
        ]:
            self.assertEqual(told_latest(house, table, moments), (moments, asks))
            self.assertTrue(same((latest(house, table), most(house, table)), (moments, asks)))

    def test_waits_alone(self):
        for house, table in fitting(HOUSES, WAITS):
            for function in (latest, most, latest_story):
                self.assertIsNone(function(house, table))

    def test_the_plays_gone_through_one_by_one(self):
        for house, many, tables in [
            ((2, 1, 0), 6, small_tables(1) + small_tables(2)),
            ((2, 2, 0), 6, small_tables(1) + small_tables(2)),
            ((2, 2, 1), 6, small_tables(1) + small_tables(2)[::3] + TABLES),
            ((3, 1, 0), 4, small_tables(1) + small_tables(2)[::4]),
            ((3, 2, 0), 5, small_tables(1) + small_tables(2)[::4] + TABLES),
            (HOUSE, 7, TABLES), (H, 6, TABLES), ((2, 3, 2), 8, TABLES), ((2, 6, 0), 9, TABLES),
        ]:
            for table in tables:
                told = told_latest(house, table, many)
                if told is None:
                    number = latest(house, table)
                    self.assertTrue(number is None or number > many, (house, table))
                else:
                    got = (latest(house, table), most(house, table))
                    self.assertTrue(same(got, told), (house, table, got, told))

    def test_all_standings_that_can_be_come_to(self):
        houses = [house for house in HOUSES if house[0] ** (house[2] + 1) <= 27]
        for house, table in fitting(houses, TABLES + small_tables(2)[5::37]):
            graph = told_graph(house, table)
            for function, cost in [(latest, lambda _: 1), (most, asks_cost(house, table))]:
                told = greatest_at_first(house, told_left(graph, cost))
                self.assertTrue(same(function(house, table), told), (house, table))

    def test_the_story_is_served_at_the_latest(self):
        for house, table in fitting(HOUSES, TABLES + small_tables(2)[5::37]):
            number = latest(house, table)
            story = latest_story(house, table)
            if number is None:
                self.assertIsNone(story)
                continue
            self.assertTrue(isinstance(story, tuple) and len(story) == 2)
            self.assertTrue(told_story(house, table, story), (house, table, story))
            self.assertIs(is_story(house, table, story), True)
            self.assertEqual(len(story[1]), number)
            self.assertTrue(story[1][-1][0] >= 0 and story[1][-1][1] == -1)

    def test_rest_of_one_and_no_lag(self):
        # Where the head may change at each moment, it may always be just another one.
        for servers in (2, 3, 4):
            for table in TABLES + WAITS:
                self.assertIsNone(latest((servers, 1, 0), table))
                self.assertIsNone(most((servers, 1, 0), table))
        self.assertTrue(same(latest((2, 2, 0), (("named", 0, 0),)), 3))
        self.assertTrue(same(latest((2, 2, 0), (("next", 0, 0),)), 3))

    def test_the_greatest_that_are_asked_of_together(self):
        for house, table in [((3, 1, 3), TABLES[0]), ((4, 6, 2), TABLES[4]), ((4, 6, 1), TABLES[3] * 2)]:
            told = greatest_at_first(house, told_left(told_graph(house, table), lambda _: 1))
            self.assertTrue(same(latest(house, table), told), (house, table))


if __name__ == "__main__":
    unittest.main()
