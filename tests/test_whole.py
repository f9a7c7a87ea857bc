"""What the document says of several modules together."""

import itertools
import unittest

from sentnext.asker import Asker
from sentnext.checker import is_ledger, is_ring, is_sure
from sentnext.errors import NotSure
from sentnext.houses import is_course, is_house, names
from sentnext.logs import is_log, last_change, may_head
from sentnext.papers import ledger, ring
from sentnext.standings import firsts, goes_to, may_name
from sentnext.stories import is_story, latest, latest_story, most
from sentnext.tables import asks, behind, is_table
from sentnext.texts import read_table, table_text
from sentnext.tighter import best_table, least_rest, most_lag, parted, stairs
from sentnext.ways import is_way, soonest, way
from tests.values import H, HOUSES, NEW, T, TABLES, WAITS, courses, fitting, same, small_tables

SMALL = [house for house in HOUSES if house[0] ** (house[2] + 1) <= 9]


def plain(value):
    """Whether a result is built of integers, strings, None and tuples, truths only as a whole."""
    if type(value) is bool:
        return True
    if type(value) is tuple:
        return all(plain(part) and type(part) is not bool for part in value)
    return value is None or type(value) in (int, str)


def way_of(house, table, moments):
    """The way that asks as the table does in so many moments."""
    places = [(0, NEW)]
    rows = []
    # Each place has its row; the rows that it leads to stand behind it.
    while len(rows) < len(places):
        moment, asker = places[len(rows)]
        server = asks(house, table, asker)
        nexts = []
        for name in range(1 if server is None else house[0]):
            place = (moment + 1, behind(house, table, asker, name))
            if name == server or moment + 1 == moments:
                nexts.append(-1)
                continue
            if place not in places:
                places.append(place)
            nexts.append(places.index(place))
        rows.append((-1 if server is None else server, tuple(nexts)))
    return tuple(rows)


class Examples(unittest.TestCase):
    def test_all_of_the_document(self):
        course = (0, 0, 1)
        told = [
            (is_course(H, (0, 0, 1, 1, 2)), True), (is_course(H, (0, 1, 2)), False),
            (names(H, course, 2, 2), (0, 1)), (names(H, course, 2, 0), (1,)), (names(H, course, 2, 1), ()),
            (behind(H, T, (0, 0, -1), 1), (0, 1, 0)), (behind(H, T, (0, 1, 0), 0), (1, 0, 1)),
            (latest((3, 3, 1), T), 4), (most((3, 3, 1), T), 4), (latest(H, T), None), (most(H, T), None),
            (is_story((3, 3, 1), T, ((1, 1, 0, 0, 0), ((0, 1), (1, 0), (2, 0), (0, -1)))), True),
            (is_ring((2, 1, 0), (("named", 0, 0),), ((1, 0, 1), ((0, 1), (1, 0), (0, 1)), 1)), True),
            (last_change((2, 1, 1), ()), (0, None)),
            (table_text(H, T), "house 3 2 1\nnamed 0 1\nnext 0 0\n"),
            (read_table("house 3 2 1\nnamed 0 1\nnext 0 0\n"), (H, T)),
        ]
        for at, (got, fine) in enumerate(told):
            self.assertTrue(same(got, fine), at)


class Papers(unittest.TestCase):
    def test_just_one_of_a_ledger_and_a_ring(self):
        tables = [T] + TABLES + WAITS + small_tables(2)[::29]
        for house, table in fitting(HOUSES[::3] + [(3, 3, 1), (2, 2, 2)], tables):
            self.one_of_both(*read_table(table_text(house, table)))

    def one_of_both(self, house, table):
        """The papers, the numbers and the story of a house and a table fit each other."""
        told_ring, told_ledger, number = ring(house, table), ledger(house, table), latest(house, table)
        self.assertEqual([told_ring is None, told_ledger is None], [number is not None, number is None])
        self.assertEqual([latest_story(house, table) is None, most(house, table) is None], [number is None] * 2)
        if number is None:
            self.assertIs(is_ring(house, table, told_ring), True)
            self.assertIs(is_story(house, table, told_ring[:2]), True)
            return
        self.assertIs(is_ledger(house, table, told_ledger), True)
        numbers = dict(told_ledger)
        self.assertEqual(max(numbers[standing] for standing in firsts(house)), number)
        course, pairs = latest_story(house, table)
        self.assertIs(is_story(house, table, (course, pairs)), True)
        self.assertEqual((len(pairs), pairs[-1][1]), (number, -1))
        self.assertLessEqual(sum(server != -1 for server, _ in pairs), most(house, table))
        self.assertLessEqual(most(house, table), number)
        self.told_to_an_asker(house, course, pairs)

    def told_to_an_asker(self, house, course, pairs):
        """What a story tells, but for its end, is a log that lets its head be."""
        asker = Asker(house)
        for many, (server, name) in enumerate(pairs[:-1]):
            self.assertIn(course[house[2] + many], asker.may())
            self.assertEqual(asker.wait() if server == -1 else asker.ask(server, name), many + 1)
        self.assertIs(is_log(house, asker.log), True)
        self.assertEqual(asker.log, pairs[:-1])
        self.assertIn(course[-1], asker.may())
        self.assertIn(asker.sure(), (None, course[-1]))


class Tighter(unittest.TestCase):
    def test_tables_read_from_a_text(self):
        for house, table in fitting(HOUSES[::4], TABLES):
            house, table = read_table(table_text(house, table))
            steps = stairs(house, table)
            for rest, number in steps:
                self.assertEqual(latest((house[0], rest, house[2]), table), number)
                self.assertEqual(least_rest(house, table, number), rest)
            number = latest(house, table)
            if number is not None:
                self.assertGreaterEqual(most_lag(house, table, number), house[2])
                self.assertEqual(steps[-1][1], min(number, steps[-1][1]))

    def test_what_parts_two_tables_is_a_story_of_both(self):
        for table, other in itertools.product(TABLES + WAITS, repeat=2):
            told = parted(H, table, other)
            if told:
                self.assertIs(is_story(H, table, told), True)
                self.assertIs(is_story(H, other, told), True)
                self.assertIs(is_log(H, told[1]), True)
                self.assertIn(told[0][-1], may_head(H, told[1]))


class Ways(unittest.TestCase):
    def test_a_table_is_a_way_too(self):
        for house, table in fitting(SMALL, TABLES[:4] + small_tables(2)[::23]):
            number = latest(house, table)
            if number is not None:
                told = way_of(house, table, number)
                self.assertIs(is_way(house, told), True, (house, table))
                self.assertIs(is_sure(house, told, number), True, (house, table))
                with self.assertRaises(NotSure) as caught:
                    is_sure(house, told, number - 1)
                story = (caught.exception.course, caught.exception.asks)
                self.assertIs(is_story(house, table, story), True, (house, table))
                self.assertLessEqual(soonest(house), number)

    def test_no_table_is_sooner_than_the_soonest_way(self):
        for house in SMALL:
            table = best_table(house)
            moments = soonest(house)
            self.assertEqual(table is None, moments is None)
            if table is not None:
                self.assertLessEqual(moments, latest(house, table))
                # What a sure way leaves open in one moment less, a log tells.
                with self.assertRaises(NotSure) as caught:
                    is_sure(house, way(house), moments - 1)
                course, pairs = caught.exception.course, caught.exception.asks
                self.assertIs(is_course(house, course), True)
                self.assertIs(is_log(house, pairs), True)
                self.assertIn(course[-1], may_head(house, pairs))

    def test_behind_a_sure_way_all_is_known(self):
        # At its last moment a way that is sure just then asks the one that surely heads.
        for house in [house for house in SMALL if soonest(house) is not None]:
            self.walk(house, way(house), 0, Asker(house), soonest(house))

    def walk(self, house, rows, number, asker, moments):
        self.assertNotEqual(number, -1)
        self.assertGreater(moments, 0)
        deed, nexts = rows[number]
        if deed == asker.sure():
            return
        if deed == -1:
            asker.wait()
            self.walk(house, rows, nexts[0], asker, moments - 1)
            return
        log = asker.log
        for name in [name for name in range(house[0]) if name != deed and self.may_be(house, log + ((deed, name),))]:
            later = asker.twin()
            later.ask(deed, name)
            self.walk(house, rows, nexts[name], later, moments - 1)

    def may_be(self, house, log):
        try:
            return len(may_head(house, log)) > 0
        except ValueError:
            return False


class Standings(unittest.TestCase):
    def test_names_and_heads(self):
        for house in HOUSES[::5]:
            self.assertEqual(may_head(house, ()), tuple(sorted({heads[0] for heads, _, _ in firsts(house)})))
            for course in itertools.islice(courses(house, house[2] + 2), 60):
                heads = course[:0:-1]
                for server in range(house[0]):
                    told = names(house, course, house[2] + 1, server)
                    self.assertTrue(same(may_name(house, (heads, 0, NEW), server), told))

    def test_one_moment_of_a_log_is_one_of_the_standings(self):
        for house in HOUSES[::4]:
            table = (("named", 0, 0),)
            later = [one for standing in firsts(house) for one in goes_to(house, table, standing)]
            for name in range(1, house[0]):
                told = tuple(sorted({heads[0] for heads, _, asker in later if asker[1] == name}))
                self.assertTrue(same(may_head(house, ((0, name),)), told))


class Results(unittest.TestCase):
    def test_tuples_at_every_depth(self):
        house, calm = (2, 3, 1), (3, 3, 1)
        told = [
            is_house(H), is_table(T), is_way(house, way(house)), is_log(H, ()),
            names(H, (0, 0, 1), 2, 2), asks(H, T, NEW), behind(H, T, NEW, 1), firsts(calm),
            may_name(calm, firsts(calm)[0], 1), goes_to(calm, T, firsts(calm)[0]), latest(calm, T), most(calm, T),
            latest_story(calm, T), ring(H, T), ledger(calm, T), least_rest(H, T, 9), most_lag(H, T, 9), stairs(H, T),
            parted(H, T, TABLES[2]), parted(H, T, T), parted(H, T, TABLES[3]), best_table(house), soonest(house),
            way(house), may_head(H, ()), last_change(H, ()), table_text(H, T), read_table(table_text(H, T)),
        ]
        for at, value in enumerate(told):
            self.assertTrue(plain(value), (at, str(value)[:200]))

    def test_results_may_be_passed_on(self):
        house, table = read_table("house 3 3 1\nnamed 0 1\nnext 0 0\n")
        self.assertIs(is_ledger(house, table, ledger(house, table)), True)
        self.assertIs(is_table(best_table(house)), True)
        self.assertIs(is_house(Asker(house).house), True)
        self.assertTrue(same(may_head(house, Asker(house).log), (0, 1, 2)))
        self.assertIs(is_ring(H, T, ring(H, T)), True)


if __name__ == "__main__":
    unittest.main()
