import copy
import unittest

from sentnext.tables import asks, behind, is_table
from tests.values import BIG, H, ODD, T, replaced, same

DEEDS = ("named", "next", "wait")


class IsTable(unittest.TestCase):
    def test_the_example(self):
        self.assertIs(is_table(T), True)

    def test_one_row(self):
        for deed in DEEDS:
            self.assertIs(is_table(((deed, 0, 0),)), True)

    def test_no_six_and_seven_rows(self):
        self.assertIs(is_table(()), False)
        for rows in range(1, 7):
            self.assertIs(is_table((("wait", rows - 1, 0),) * rows), True)
        self.assertIs(is_table((("wait", 0, 0),) * 7), False)
        self.assertIs(is_table((("wait", 6, 6),) * 7), False)

    def test_numbers_of_rows_that_it_has_not(self):
        for rows in range(1, 7):
            for number in range(-2, 9):
                fits = 0 <= number < rows
                good = ("named", 0, 0)
                for bad in [("named", number, 0), ("next", 0, number), ("wait", 0, number)]:
                    self.assertIs(is_table((bad,) + (good,) * (rows - 1)), fits)
                    self.assertIs(is_table((good,) * (rows - 1) + (bad,)), fits)
        self.assertIs(is_table((("named", BIG, 0),)), False)
        self.assertIs(is_table((("named", 0, -BIG),)), False)

    def test_other_deeds(self):
        for deed in ["", "Named", "NEXT", "wait ", " wait", "ask", "name", "nam", "house", 0, None, True,
                     ("named",), ["named"], ("n", "e", "x", "t"), BIG]:
            self.assertIs(is_table(((deed, 0, 0),)), False, deed)

    def test_rows_of_another_length(self):
        for row in [(), ("named",), ("named", 0), ("named", 0, 0, 0)]:
            self.assertIs(is_table((row,)), False)
            self.assertIs(is_table(T + (row,)), False)
        self.assertIs(is_table(("named", 0, 0)), False)

    def test_any_value(self):
        for value in ODD:
            self.assertIs(is_table(value), False)
            self.assertIs(is_table((value,)), False)
            self.assertIs(is_table(T + (value,)), False)
            self.assertIs(is_table(((value, value, value),)), False)
            self.assertIs(is_table((("named", 0, 0), ("next", "", value))), False)

    def test_other_kinds_in_one_place(self):
        for table in [T, (("wait", 1, 0), ("next", 1, 0)), (("named", 0, 0),)]:
            for value in replaced(table):
                self.assertIs(is_table(value), False, value)

    def test_a_list_stays_as_it_was(self):
        for value in [[("named", 0, 0)], (["named", 0, 0],), [["named", [0], 0]]]:
            before = copy.deepcopy(value)
            self.assertIs(is_table(value), False)
            self.assertTrue(same(value, before))


class Asks(unittest.TestCase):
    def test_named_asks_the_one_named_last(self):
        for named in range(3):
            for asked in range(-1, 3):
                self.assertTrue(same(asks(H, T, (0, named, asked)), named))

    def test_named_where_none_was_named_yet(self):
        self.assertTrue(same(asks(H, T, (0, 0, -1)), 0))

    def test_next_asks_the_one_behind(self):
        self.assertTrue(same(asks(H, T, (1, 2, 0)), 1))
        self.assertTrue(same(asks(H, T, (1, 0, 1)), 2))

    def test_next_where_none_was_asked_yet(self):
        for named in range(3):
            self.assertTrue(same(asks(H, T, (1, named, -1)), 0))

    def test_next_behind_the_greatest_server(self):
        for servers in (2, 3, 4):
            house = (servers, 1, 0)
            for named in range(servers):
                self.assertTrue(same(asks(house, T, (1, named, servers - 1)), 0))
                self.assertTrue(same(asks(house, T, (1, named, servers - 2)), servers - 1))

    def test_wait_asks_none(self):
        table = (("named", 0, 0), ("wait", 0, 0))
        for named in range(3):
            for asked in range(-1, 3):
                self.assertIsNone(asks(H, table, (1, named, asked)))


class Behind(unittest.TestCase):
    def test_the_example(self):
        self.assertTrue(same(behind(H, T, (0, 0, -1), 1), (0, 1, 0)))
        self.assertTrue(same(behind(H, T, (0, 1, 0), 0), (1, 0, 1)))

    def test_the_ways_to_ahead_and_to_again(self):
        for deed, server in (("named", 1), ("next", 0)):
            table = (("wait", 0, 0), (deed, 2, 3), ("wait", 0, 0), ("wait", 0, 0))
            self.assertTrue(same(behind(H, table, (1, 1, 2), 2), (3, 2, server)))
            other = 0 if server == 1 else 1
            self.assertTrue(same(behind(H, table, (1, 1, 2), other), (2, other, server)))

    def test_again_looks_at_the_one_asked_ahead_of_this_ask(self):
        table = (("named", 1, 2), ("wait", 0, 0), ("wait", 0, 0))
        # Neither the one asked now nor the one named ahead of it sends to again.
        self.assertTrue(same(behind(H, table, (0, 1, 1), 0), (1, 0, 1)))
        self.assertTrue(same(behind(H, table, (0, 1, 0), 2), (1, 2, 1)))
        self.assertTrue(same(behind(H, table, (0, 0, 1), 1), (2, 1, 0)))
        for house, named, asked, name in [(H, 0, 2, 2), (H, 2, 0, 0), ((4, 1, 0), 0, 3, 3)]:
            self.assertTrue(same(behind(house, table, (0, named, asked), name), (2, name, named)))

    def test_none_was_asked_ahead(self):
        table = (("named", 1, 2), ("next", 0, 2), ("wait", 0, 0))
        for name in (1, 2):
            self.assertTrue(same(behind(H, table, (0, 0, -1), name), (1, name, 0)))
            self.assertTrue(same(behind(H, table, (1, 0, -1), name), (0, name, 0)))

    def test_next_behind_the_greatest_server(self):
        self.assertTrue(same(behind(H, T, (1, 0, 2), 1), (0, 1, 0)))
        self.assertTrue(same(behind(H, T, (1, 0, 1), 0), (0, 0, 2)))

    def test_wait_leaves_named_and_asked(self):
        table = (("wait", 1, 2), ("named", 0, 0), ("next", 0, 0))
        for named in range(3):
            for asked in range(-1, 3):
                for name in range(3):
                    told = behind(H, table, (0, named, asked), name)
                    self.assertTrue(same(told, (1, named, asked)))


if __name__ == "__main__":
    unittest.main()
