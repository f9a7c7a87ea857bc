import copy
import itertools
import unittest

from sentnext.houses import is_course, is_house, names
from tests.values import BIG, H, HOUSES, ODD, courses, replaced, same, told_names


class IsHouse(unittest.TestCase):
    def test_every_house_and_all_one_beyond(self):
        for value in itertools.product(range(-1, 7), range(-1, 9), range(-2, 6)):
            self.assertIs(is_house(value), value in HOUSES, value)

    def test_each_bound_of_servers(self):
        self.assertIs(is_house((1, 2, 0)), False)
        self.assertIs(is_house((2, 2, 0)), True)
        self.assertIs(is_house((4, 2, 0)), True)
        self.assertIs(is_house((5, 2, 0)), False)

    def test_each_bound_of_rest(self):
        self.assertIs(is_house((2, 0, 0)), False)
        self.assertIs(is_house((2, 1, 0)), True)
        self.assertIs(is_house((2, 6, 0)), True)
        self.assertIs(is_house((2, 7, 0)), False)

    def test_each_bound_of_lag(self):
        self.assertIs(is_house((2, 1, -1)), False)
        self.assertIs(is_house((2, 1, 0)), True)
        self.assertIs(is_house((2, 1, 3)), True)
        self.assertIs(is_house((2, 1, 4)), False)

    def test_rows_of_heads_at_81_and_above(self):
        self.assertIs(is_house((3, 6, 3)), True)
        self.assertIs(is_house((4, 6, 2)), True)
        self.assertIs(is_house((4, 6, 3)), False)

    def test_any_value(self):
        for value in ODD + [(BIG, 1, 0), (2, BIG, 0), (2, 1, BIG), (2, 1, -BIG), (2, 1), (2, 1, 0, 0)]:
            self.assertIs(is_house(value), False)

    def test_other_kinds_in_one_place(self):
        for house in [H, (2, 1, 0), (2, 1, 1), (3, 1, 3)]:
            for value in replaced(house):
                self.assertIs(is_house(value), False, value)


class IsCourse(unittest.TestCase):
    def test_the_example(self):
        self.assertIs(is_course(H, (0, 0, 1, 1, 2)), True)
        self.assertIs(is_course(H, (0, 1, 2)), False)

    def test_all_short_rows_of_heads(self):
        for house in HOUSES:
            many = 6 if house[0] == 2 else 4
            right = list(courses(house, many))
            for heads in itertools.product(range(house[0]), repeat=many):
                self.assertIs(is_course(house, heads), heads in right, (house, heads))

    def test_changes_exactly_rest_apart_and_one_less(self):
        for rest in range(1, 7):
            house = (2, rest, 0)
            self.assertIs(is_course(house, (0,) + (1,) * rest + (0,)), True)
            self.assertIs(is_course(house, (0,) * 9 + (1,) * rest + (0,) * 9), True)
            if rest > 1:
                self.assertIs(is_course(house, (0,) + (1,) * (rest - 1) + (0,)), False)
                self.assertIs(is_course(house, (0,) * 9 + (1,) * (rest - 1) + (0,) * 9), False)
                # Each two neighbours count, not only the first two.
                self.assertIs(is_course(house, (0,) + (1,) * rest + (0,) * (rest - 1) + (1,)), False)

    def test_the_first_change_comes_at_any_moment(self):
        for moment in range(1, 8):
            self.assertIs(is_course((2, 6, 0), (0,) * moment + (1,)), True)

    def test_a_course_of_one_head(self):
        for house in HOUSES:
            for server in range(house[0]):
                self.assertIs(is_course(house, (server,)), True)
            self.assertIs(is_course(house, (house[0],)), False)
            self.assertIs(is_course(house, (-1,)), False)
            self.assertIs(is_course(house, ()), False)

    def test_heads_that_are_no_servers(self):
        for wrong in [-1, 3, BIG, -BIG, None, "0", (), (0,), [0], True, False]:
            self.assertIs(is_course((3, 1, 0), (0, wrong)), False)
            self.assertIs(is_course((3, 1, 0), (wrong, 0, 0)), False)

    def test_any_value(self):
        for value in ODD:
            fits = isinstance(value, tuple) and value[:2] == (0, 0)
            self.assertIs(is_course(H, value), fits)

    def test_other_kinds_in_one_place(self):
        for value in replaced((0, 0, 1, 1, 2)):
            self.assertIs(is_course(H, value), False, value)

    def test_a_list_stays_as_it_was(self):
        for value in [[0, 0, 1], [[0], (0, [1])], ([0], 1, 1)]:
            before = copy.deepcopy(value)
            is_course(H, value)
            is_house(value)
            self.assertTrue(same(value, before))


class Names(unittest.TestCase):
    def test_the_example(self):
        course = (0, 0, 1)
        self.assertTrue(same(names(H, course, 2, 2), (0, 1)))
        self.assertTrue(same(names(H, course, 2, 0), (1,)))
        self.assertTrue(same(names(H, course, 2, 1), ()))

    def test_ascending_though_the_greater_one_headed_ahead(self):
        self.assertTrue(same(names((3, 1, 2), (2, 1, 0), 2, 0), ()))
        self.assertTrue(same(names((4, 1, 2), (2, 1, 0), 2, 3), (0, 1, 2)))
        self.assertTrue(same(names((4, 1, 2), (2, 0, 2), 2, 3), (0, 2)))

    def test_nothing_from_its_own_heading_back(self):
        house = (4, 1, 2)
        self.assertTrue(same(names(house, (0, 1, 2), 2, 1), (2,)))
        self.assertTrue(same(names(house, (0, 1, 2), 2, 0), (1, 2)))
        self.assertTrue(same(names(house, (3, 3, 0, 1, 2), 4, 0), (1, 2)))

    def test_no_further_back_than_the_lag(self):
        course = (0, 1, 2, 1)
        self.assertTrue(same(names((4, 1, 0), course, 3, 3), (1,)))
        self.assertTrue(same(names((4, 1, 1), course, 3, 3), (1, 2)))
        self.assertTrue(same(names((4, 1, 2), course, 3, 3), (1, 2)))
        self.assertTrue(same(names((3, 1, 3), (0, 1, 1, 1), 3, 2), (0, 1)))

    def test_no_lag_names_the_one_that_heads(self):
        for house in HOUSES:
            if house[2] == 0:
                for course in courses(house, 3):
                    for moment in range(3):
                        for server in range(house[0]):
                            told = () if course[moment] == server else (course[moment],)
                            self.assertTrue(same(names(house, course, moment, server), told))

    def test_all_short_courses(self):
        for house in HOUSES:
            servers, _, lag = house
            for course in courses(house, lag + 2):
                for moment in (lag, lag + 1):
                    for server in range(servers):
                        told = names(house, course, moment, server)
                        self.assertTrue(same(told, told_names(house, course, moment, server)))
                        self.assertEqual(told == (), course[moment] == server)
                        self.assertNotIn(server, told)

    def test_later_heads_do_not_matter(self):
        for course in courses(H, 4):
            for server in range(3):
                self.assertEqual(names(H, course, 1, server), names(H, course[:2], 1, server))


if __name__ == "__main__":
    unittest.main()
