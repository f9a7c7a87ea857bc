import copy
import itertools
import unittest

from sentnext.checker import is_ledger, is_ring, is_sure
from sentnext.errors import AskError, NoLedger, NoRing, NotSure
from sentnext.papers import ledger, ring
from tests.values import (
    BIG, H, HOUSES, NEW, ODD, T, TABLES, WAITS, courses, fitting, replaced, same, small_tables,
    small_ways, told_askers, told_behind, told_course, told_ring, told_standing, told_stories,
    told_story, told_turns, unserved, way_answers,
)

NAMED = (("named", 0, 0),)
RING = ((1, 0, 1), ((0, 1), (1, 0), (0, 1)), 1)
ROWS = (("wait", 1, 1), ("named", 2, 0), ("next", 1, 1))


def put(items, at, *news):
    """A copy of a tuple with other items in the place of one."""
    return items[:at] + news + items[at + 1:]


def ring_fault(house, table, value):
    """The word that a triple of heads, pairs and an integer is refused with, or None."""
    course, pairs, begin = value
    if not told_course(house, course) or len(course) <= house[2]:
        return "shape"
    if not told_story(house, table, (course, pairs)) or told_askers(house, table, (course, pairs))[-1] is None:
        return "story"
    if not house[2] <= begin < len(course):
        return "begin"
    return None if told_ring(house, table, value) else "round"


class Checked(unittest.TestCase):
    """What the tests of rings and ledgers share."""

    def no_ring(self, house, table, value, word):
        with self.assertRaises(NoRing) as caught:
            is_ring(house, table, value)
        self.assertTrue(same(caught.exception.word, word), (str(value)[:200], caught.exception.word, word))

    def no_ledger(self, house, table, value, word, number):
        with self.assertRaises(NoLedger) as caught:
            is_ledger(house, table, value)
        got = (caught.exception.word, caught.exception.number)
        self.assertTrue(same(got, (word, number)), (str(value)[:200], got, word, number))


class IsRing(Checked):
    def test_the_example(self):
        self.assertIs(is_ring((2, 1, 0), NAMED, RING), True)

    def test_what_ring_tells(self):
        for house, table in fitting(HOUSES, TABLES + WAITS + [ROWS] + small_tables(2)[7::41]):
            value = ring(house, table)
            if value is not None:
                self.assertIs(is_ring(house, table, value), True)

    def test_shape(self):
        course, pairs, begin = RING
        for value in [
            (), (course,), (course, pairs), (course, pairs, begin, begin), (pairs, course, begin), course,
            list(RING), (list(course), pairs, begin), (course, list(pairs), begin), (course, None, begin),
            (course, pairs, True), (course, pairs, False), (course, pairs, None), (course, pairs, "1"),
            (course, pairs, (1,)), (course, "", begin), ((), pairs, begin), ((), (), 0),
            ((1, 0, 2), pairs, begin), ((1, 0, True), pairs, begin), ((True, 0, 1), pairs, begin),
        ]:
            self.no_ring((2, 1, 0), NAMED, value, "shape")
        # The same heads are no course where the head must stay.
        self.no_ring((2, 2, 0), NAMED, RING, "shape")

    def test_shape_where_the_course_ends_ahead_of_the_lag(self):
        for lag in (1, 2, 3):
            for many in range(1, lag + 1):
                self.no_ring((2, 1, lag), NAMED, ((1,) * many, (), lag), "shape")
                self.no_ring((2, 1, lag), NAMED, ((1,) * many, ((0, 1),), 0), "shape")
            self.no_ring((2, 1, lag), NAMED, ((1,) * (lag + 1), (), lag), "story")

    def test_story(self):
        course, pairs, begin = RING
        for wrong in [
            (), pairs[:2], pairs + pairs[2:], pairs + ((1, 0),), ((1, 0),) + pairs[1:], put(pairs, 0, (0, 0)),
            put(pairs, 0, (0, -1)), put(pairs, 2, (0, 0)), put(pairs, 1, (-1, -1)), put(pairs, 1, (0, 1)),
            put(pairs, 2, (0, -1)), put(pairs, 1, (1, False)), put(pairs, 1, (True, 0)), put(pairs, 1, [1, 0]),
            put(pairs, 1, (1,)), put(pairs, 2, (0, 1, 1)), put(pairs, 2, "01"), put(pairs, 0, None), ((),) * 3,
        ]:
            self.no_ring((2, 1, 0), NAMED, (course, wrong, begin), "story")

    def test_story_where_it_is_served(self):
        for course, pairs in [((0,), ((0, -1),)), ((1, 1), ((0, 1), (1, -1))),
                              ((1, 0, 0), ((0, 1), (1, 0), (0, -1)))]:
            for begin in range(-1, 4):
                self.no_ring((2, 1, 0), NAMED, (course, pairs, begin), "story")

    def test_begin(self):
        course, pairs, _ = RING
        for begin in (-BIG, -2, -1, 3, 4, BIG):
            self.no_ring((2, 1, 0), NAMED, (course, pairs, begin), "begin")
        for house in [(2, 1, 1), (3, 2, 2), (2, 6, 3)]:
            course, pairs, begin = ring(house, WAITS[0])
            for wrong in list(range(-2, house[2])) + [len(course), len(course) + 1]:
                self.no_ring(house, WAITS[0], (course, pairs, wrong), "begin")
            self.assertIs(is_ring(house, WAITS[0], (course, pairs, begin)), True)

    def test_round_where_the_asker_is_another(self):
        course, pairs, _ = RING
        self.no_ring((2, 1, 0), NAMED, (course, pairs, 0), "round")
        self.no_ring((2, 1, 0), NAMED, (course, pairs, 2), "round")
        self.no_ring((2, 1, 0), WAITS[1], ((0, 0), ((-1, -1),) * 2, 0), "round")
        self.assertIs(is_ring((2, 1, 0), WAITS[1], ((0, 0), ((-1, -1),) * 2, 1)), True)

    def test_round_where_the_heads_are_others(self):
        self.no_ring((2, 1, 1), WAITS[0], ((0, 1, 1), ((-1, -1),) * 2, 1), "round")
        self.assertIs(is_ring((2, 1, 1), WAITS[0], ((0, 1, 1), ((-1, -1),) * 2, 2)), True)
        self.assertIs(is_ring((2, 1, 1), WAITS[0], ((1, 1), ((-1, -1),), 1)), True)

    def test_round_where_the_hold_is_another(self):
        one = ((-1, -1),)
        self.no_ring((2, 3, 0), WAITS[0], ((0, 1), one * 2, 1), "round")
        self.no_ring((2, 3, 0), WAITS[0], ((0, 1, 1), one * 3, 1), "round")
        self.assertIs(is_ring((2, 3, 0), WAITS[0], ((0, 1, 1, 1), one * 4, 3)), True)
        # The head came back at moment 4; where it had not changed yet, it was not held.
        self.no_ring((2, 3, 0), WAITS[0], ((0, 1, 1, 1), one * 4, 0), "round")
        self.assertIs(is_ring((2, 3, 0), WAITS[0], ((0, 1, 1, 1, 0, 0, 0), one * 7, 1)), True)

    def test_the_first_fault_is_told(self):
        course, pairs, _ = RING
        served = put(pairs, 2, (0, -1))
        self.no_ring((2, 1, 0), NAMED, (course, served, "0"), "shape")
        self.no_ring((2, 1, 0), NAMED, ((1, 0, 2), served, 9), "shape")
        self.no_ring((2, 1, 0), NAMED, (course, served, 9), "story")
        self.no_ring((2, 1, 0), NAMED, (course, (), 9), "story")
        self.no_ring((2, 1, 0), NAMED, (course, pairs, 9), "begin")

    def test_all_short_stories_and_each_begin(self):
        for house, many, tables in [
            ((2, 1, 0), 5, TABLES), ((2, 2, 0), 6, TABLES + WAITS), ((2, 3, 0), 6, TABLES + WAITS[:2]),
            ((2, 2, 1), 5, TABLES + WAITS[:2]), ((3, 1, 0), 3, TABLES), (H, 3, TABLES + WAITS[:1]),
        ]:
            rings = 0
            for table, moments in itertools.product(tables, range(1, many + 1)):
                for (course, pairs), _ in told_stories(house, table, moments):
                    for begin in range(house[2] - 1, len(course) + 1):
                        rings += self.as_told(house, table, (course, pairs, begin))
            self.assertGreater(rings, 0)

    def as_told(self, house, table, value):
        """The checker says of a value what the document says; 1 is returned of a ring, otherwise 0."""
        word = ring_fault(house, table, value)
        if word is None:
            self.assertIs(is_ring(house, table, value), True)
            return 1
        self.no_ring(house, table, value, word)
        return 0

    def test_other_kinds_in_one_place(self):
        for value in replaced(RING):
            told = isinstance(value, tuple) and isinstance(value[0], tuple) and isinstance(value[1], tuple)
            told = told and same(value[0], RING[0]) and same(value[2], RING[2])
            self.no_ring((2, 1, 0), NAMED, value, "story" if told else "shape")

    def test_any_value(self):
        course, pairs, begin = RING
        for value in ODD:
            self.no_ring((2, 1, 0), NAMED, value, "shape")
            self.no_ring((2, 1, 0), NAMED, (value, value, value), "shape")
            # One of the values is a course, of heads that are all 0.
            heads = isinstance(value, tuple) and value[:2] == (0, 0)
            self.no_ring((2, 1, 0), NAMED, (value, pairs, begin), "story" if heads else "shape")
            self.no_ring((2, 1, 0), NAMED, (course, value, begin), "story" if isinstance(value, tuple) else "shape")
            self.no_ring((2, 1, 0), NAMED, (course, put(pairs, 1, value), begin), "story")
            if type(value) is not int:
                self.no_ring((2, 1, 0), NAMED, (course, pairs, value), "shape")

    def test_a_list_stays_as_it_was(self):
        course, pairs, begin = RING
        for value in [list(RING), (course, list(pairs), begin), (course, ([0, 1],) + pairs[1:], begin)]:
            before = copy.deepcopy(value)
            with self.assertRaises(NoRing):
                is_ring((2, 1, 0), NAMED, value)
            self.assertTrue(same(value, before))


def told_goes_to(house, table, standing):
    """The standings that one leads to."""
    heads, hold, asker = standing
    askers = told_behind(house, table, heads[::-1], house[2], asker)
    return [(row, stays, new) for row, stays in told_turns(house, heads, hold) for new in askers]


def ledger_fault(house, table, value):
    """The word and number that ascending pairs of standings and numbers are refused with, or None."""
    numbers = dict(value)
    for at, (standing, number) in enumerate(value):
        later = told_goes_to(house, table, standing)
        if any(one not in numbers for one in later):
            return ("open", at)
        if any(numbers[one] >= number for one in later):
            return ("falls", at)
    begun = [told_standing(house, course, house[2], NEW) for course in courses(house, house[2] + 1)]
    return None if all(standing in numbers for standing in begun) else ("first", -1)


CASES = [
    ((2, 2, 0), NAMED), ((3, 3, 1), T), ((2, 2, 1), ROWS[:1] + (("next", 1, 1),)), ((2, 3, 2), TABLES[2]),
    ((3, 2, 0), (("wait", 1, 0), ("named", 1, 1))),
]


class IsLedger(Checked):
    def as_told(self, house, table, value):
        fault = ledger_fault(house, table, value)
        if fault is None:
            self.assertIs(is_ledger(house, table, value), True)
        else:
            self.no_ledger(house, table, value, *fault)
        return fault

    def test_what_ledger_tells(self):
        for house, table in fitting(HOUSES, TABLES + small_tables(2)[7::41]):
            value = ledger(house, table)
            if value is not None:
                self.assertIs(is_ledger(house, table, value), True)

    def test_greater_numbers_and_more_standings_do_no_harm(self):
        for house, table in CASES:
            value = ledger(house, table)
            more = tuple((standing, number + BIG) for standing, number in value)
            self.assertIs(is_ledger(house, table, more), True)
            self.assertIs(is_ledger(house, table, tuple((one, 3 * number) for one, number in value)), True)
        # Server 0 did not name itself, so this can't be come to; but 0 serves there.
        value = ledger((2, 2, 0), NAMED)
        more = tuple(sorted(value + ((((0,), 1, (0, 0, 0)), 1),)))
        self.assertIs(is_ledger((2, 2, 0), NAMED, more), True)

    def test_shape(self):
        for house, table in CASES:
            for value in [list(ledger(house, table)), dict(ledger(house, table)), None, 0, True, "", []]:
                self.no_ledger(house, table, value, "shape", -1)

    def test_no_item(self):
        for house, table in CASES:
            self.no_ledger(house, table, (), "first", -1)

    def test_items_that_are_no_pairs_at_each_place(self):
        for house, table in CASES:
            value = ledger(house, table)
            for at, (standing, number) in enumerate(value):
                for wrong in [
                    (), (standing,), (standing, number, number), [standing, number], (number, standing),
                    standing, number, None, (standing, None), (standing, True), (standing, False),
                    (standing, 0), (standing, -1), (standing, -BIG), (standing, str(number)), (standing, (number,)),
                ]:
                    self.no_ledger(house, table, put(value, at, wrong), "pair", at)

    def test_standings_of_another_shape_at_each_place(self):
        for house, table in CASES:
            servers, rest, lag = house
            value = ledger(house, table)
            for at, ((heads, hold, asker), number) in enumerate(value):
                row, named, asked = asker
                wrongs = [(), (heads, hold), (heads, hold, asker, 0), (heads + (0,), hold, asker),
                          (heads[1:], hold, asker), (heads, rest, asker), (heads, -1, asker),
                          (put(heads, lag, servers), hold, asker), (put(heads, 0, -1), hold, asker),
                          (heads, hold, asker[:2]), (heads, hold, asker + (0,)),
                          (heads, hold, (len(table), named, asked)), (heads, hold, (-1, named, asked)),
                          (heads, hold, (row, servers, asked)), (heads, hold, (row, -1, asked)),
                          (heads, hold, (row, named, servers)), (heads, hold, (row, named, -2)),
                          (heads, None, asker), (heads, hold, None), (None, hold, asker), (heads, "0", asker)]
                wrongs += list(replaced((heads, hold, asker)))
                for wrong in wrongs:
                    self.no_ledger(house, table, put(value, at, (wrong, number)), "pair", at)

    def test_items_that_do_not_ascend(self):
        for house, table in CASES:
            value = ledger(house, table)
            for at in range(len(value) - 1):
                twice = put(value, at, value[at], value[at])
                self.no_ledger(house, table, twice, "pair", at + 1)
                less = put(value, at, value[at], (value[at][0], value[at][1] + 1))
                self.no_ledger(house, table, less, "pair", at + 1)
                swapped = put(value[:at + 1], at, value[at + 1], value[at]) + value[at + 2:]
                self.no_ledger(house, table, swapped, "pair", at + 1)
            self.no_ledger(house, table, value[::-1], "pair", 1)

    def test_an_item_left_out(self):
        for house, table in CASES:
            value = ledger(house, table)
            words = {self.as_told(house, table, put(value, at))[0] for at in range(len(value))}
            self.assertEqual(words, {"open", "first"})

    def test_one_number_changed(self):
        for house, table in CASES:
            value = ledger(house, table)
            words = set()
            for at, (standing, number) in enumerate(value):
                for other in range(1, value[-1][1] + 8):
                    fault = self.as_told(house, table, put(value, at, (standing, other)))
                    words.add(fault and fault[0])
            self.assertEqual(words, {None, "falls"})

    def test_an_equal_number_does_not_fall(self):
        value = ledger((2, 2, 0), NAMED)
        self.no_ledger((2, 2, 0), NAMED, put(value, 2, (value[2][0], 1)), "falls", 2)
        self.no_ledger((2, 2, 0), NAMED, put(value, 3, (value[3][0], 2)), "falls", 3)
        self.no_ledger((2, 2, 0), NAMED, put(value, 4, (value[4][0], 3)), "falls", 3)

    def test_an_item_left_out_and_a_number_changed(self):
        for house, table in CASES[:2]:
            value = ledger(house, table)
            words = set()
            for out, at in itertools.permutations(range(len(value)), 2):
                for number in (1, 9):
                    spoilt = put(put(value, at, (value[at][0], number)), out)
                    fault = self.as_told(house, table, spoilt)
                    words.add(fault and fault[0])
            self.assertLessEqual({"open", "falls", "first"}, words)

    def test_open_comes_ahead_of_falls_at_one_item(self):
        # Item 3 leads to items 2 and 4. Both numbers are too great, then one of the two is away.
        value = ledger((2, 2, 0), NAMED)
        great = put(put(value, 2, (value[2][0], 7)), 4, (value[4][0], 7))
        self.no_ledger((2, 2, 0), NAMED, great, "falls", 3)
        self.no_ledger((2, 2, 0), NAMED, great[:4], "open", 3)
        self.no_ledger((2, 2, 0), NAMED, put(great, 2), "open", 2)
        # An earlier item that does not fall comes ahead of a later one that is open.
        early = put(value, 2, (value[2][0], 1))
        self.no_ledger((2, 2, 0), NAMED, early[:4], "falls", 2)

    def test_pairs_come_ahead_of_the_rest(self):
        value = ledger((2, 2, 0), NAMED)
        early = put(put(value, 2, (value[2][0], 1)), 4, (value[4][0], 0))
        self.no_ledger((2, 2, 0), NAMED, early, "pair", 4)
        self.no_ledger((2, 2, 0), NAMED, value[3:] + (None,), "pair", 2)
        self.no_ledger((2, 2, 0), NAMED, (None, value[0], value[0]), "pair", 0)
        self.no_ledger((2, 2, 0), NAMED, (value[1], value[0], None), "pair", 1)

    def test_first(self):
        for house, table in CASES:
            value = ledger(house, table)
            begun = [told_standing(house, course, house[2], NEW) for course in courses(house, house[2] + 1)]
            for standing in begun:
                left = tuple(entry for entry in value if entry[0] != standing)
                self.no_ledger(house, table, left, "first", -1)
            self.no_ledger((2, 2, 0), NAMED, ledger((2, 2, 0), NAMED)[1:2], "first", -1)

    def test_where_there_is_no_ledger(self):
        # Whatever numbers its standings are given, somewhere they do not fall.
        for house, table in [((2, 1, 0), NAMED), (H, WAITS[0]), ((2, 2, 1), WAITS[1])]:
            graph = {}
            ready = [told_standing(house, course, house[2], NEW) for course in courses(house, house[2] + 1)]
            while ready:
                standing = ready.pop()
                if standing not in graph:
                    graph[standing] = told_goes_to(house, table, standing)
                    ready += graph[standing]
            for number in (1, 5, BIG):
                value = tuple((standing, number + at) for at, standing in enumerate(sorted(graph)))
                self.assertEqual(self.as_told(house, table, value)[0], "falls")

    def test_any_value(self):
        value = ledger((2, 2, 0), NAMED)
        for odd in ODD:
            if odd == () and isinstance(odd, tuple):
                self.no_ledger((2, 2, 0), NAMED, odd, "first", -1)
            elif isinstance(odd, tuple):
                self.no_ledger((2, 2, 0), NAMED, odd, "pair", 0)
            else:
                self.no_ledger((2, 2, 0), NAMED, odd, "shape", -1)
            self.no_ledger((2, 2, 0), NAMED, (odd,), "pair", 0)
            self.no_ledger((2, 2, 0), NAMED, value + (odd,), "pair", len(value))
            self.no_ledger((2, 2, 0), NAMED, ((odd, 1),), "pair", 0)
            self.no_ledger((2, 2, 0), NAMED, (((odd, odd, odd), 1),), "pair", 0)
            if type(odd) is not int or odd < 1:
                self.no_ledger((2, 2, 0), NAMED, put(value, 3, (value[3][0], odd)), "pair", 3)

    def test_a_list_stays_as_it_was(self):
        value = ledger((2, 2, 0), NAMED)
        for odd in [list(value), (list(value[0]),), put(value, 4, ([*value[4][0]], 1))]:
            before = copy.deepcopy(odd)
            with self.assertRaises(NoLedger):
                is_ledger((2, 2, 0), NAMED, odd)
            self.assertTrue(same(odd, before))


def goes_by_way(house, way, moments, course, pairs):
    """Whether these are a course and pairs of so many moments, or up to where the way ends, never served."""
    lag = house[2]
    row = 0
    for moment, pair in enumerate(pairs, lag):
        answers = dict(way_answers(house, course, moment, way[row])) if row != -1 else {}
        if pair not in answers:
            return False
        row = answers[pair]
    many = len(pairs)
    return told_course(house, course) and len(course) == lag + many and (many == moments or row == -1 < many < moments)


class IsSure(unittest.TestCase):
    def as_told(self, house, way, moments):
        """The checker says of a way what the document says; whether it is sure is returned."""
        told = set(unserved(house, way, moments))
        if not told:
            self.assertIs(is_sure(house, way, moments), True)
            return True
        with self.assertRaises(NotSure) as caught:
            is_sure(house, way, moments)
        error = caught.exception
        got = (error.course, error.asks)
        self.assertTrue(any(same(got, one) for one in told), (house, way, moments, got))
        return False

    def test_ordinary(self):
        # Ask 0; ask whom it named; ask whom that one named: it must stay now.
        way = ((0, (-1, 1)), (1, (2, -1)), (0, (-1, -1)))
        for moments in range(1, 3):
            self.assertFalse(self.as_told((2, 2, 0), way, moments))
        for moments in (3, 4, 60):
            self.assertIs(is_sure((2, 2, 0), way, moments), True)
        with self.assertRaises(NotSure) as caught:
            is_sure((2, 2, 0), way, 2)
        self.assertTrue(same(caught.exception.course, (1, 0)))
        self.assertTrue(same(caught.exception.asks, ((0, 1), (1, 0))))
        with self.assertRaises(AskError):
            is_sure((2, 1, 0), way, 3)

    def test_ways_that_end_too_early(self):
        for way in [((0, (-1, -1)),), ((-1, (-1,)),), ((0, (-1, 1)), (1, (-1, -1))), ((0, (-1, 1)), (-1, (-1,)))]:
            for moments in (1, 2, 3):
                self.assertFalse(self.as_told((2, 2, 0), way, moments))
            with self.assertRaises(NotSure) as caught:
                is_sure((2, 2, 0), way, 60)
            self.assertEqual(len(caught.exception.asks), len(way))
            self.assertEqual(len(caught.exception.course), len(way))

    def test_waits(self):
        house = (2, 2, 1)
        asking = ((0, (-1, 4)), (1, (5, -1)), (0, (-1, 6)), (1, (-1, -1)))
        way = tuple((-1, (at + 1,)) for at in range(3)) + asking
        for moments in range(1, 8):
            self.as_told(house, way, moments)
        with self.assertRaises(NotSure) as caught:
            is_sure(house, way, 3)
        self.assertEqual(caught.exception.asks, ((-1, -1),) * 3)

    def test_just_in_so_many_moments_and_not_in_one_less(self):
        for waits in range(57):
            waiting = tuple((-1, (at + 1,)) for at in range(waits))
            first = waits + 1
            way = waiting + ((0, (-1, first)), (1, (first + 1, -1)), (0, (-1, -1)))
            self.assertIs(is_sure((2, 2, 0), way, waits + 3), True)
            with self.assertRaises(NotSure) as caught:
                is_sure((2, 2, 0), way, waits + 2)
            self.assertEqual(len(caught.exception.asks), waits + 2)

    def test_all_ways_of_few_rows(self):
        for house in [(2, 1, 0), (2, 2, 0), (2, 2, 1), (2, 3, 2)]:
            sure = 0
            for rows in (1, 2, 3):
                for way, moments in itertools.product(small_ways(house, rows), (1, 2, 3, 4)):
                    sure += self.as_told(house, way, moments)
            self.assertEqual(sure > 0, house[1] > 1)

    def test_some_ways_of_more_rows(self):
        for house, rows, steps in [((2, 2, 1), 4, 23), ((2, 3, 1), 4, 23), ((3, 2, 0), 3, 11), ((3, 3, 1), 3, 61)]:
            for way in list(small_ways(house, rows))[::steps]:
                for moments in (2, 3, 4):
                    self.as_told(house, way, moments)

    def test_a_row_that_is_come_to_sooner_and_later(self):
        # With the same heads a row is come to in fewer moments and in more; the latter are too many.
        house = (3, 3, 1)
        one = ((1, (1, -1, 2)), (0, (-1, 3, 2)), (0, (-1, 4, 3)), (2, (4, 4, -1)), (1, (5, -1, 5)), (0, (-1, -1, -1)))
        two = ((2, (3, 1, -1)), (1, (2, -1, 4)), (2, (3, 4, -1)), (0, (-1, 5, 4)), (2, (5, 5, -1)), (1, (-1, -1, -1)))
        for way, late in [(one, 5), (two, 4)]:
            self.assertEqual([self.as_told(house, way, moments) for moments in range(late, late + 3)],
                             [False, True, True])

    def test_the_longest_ways(self):
        way = tuple((-1, (at + 1,)) for at in range(199)) + ((-1, (-1,)),)
        for house in [(2, 6, 2), (3, 1, 1), (4, 3, 0)]:
            for moments in (1, 59, 60):
                with self.assertRaises(NotSure) as caught:
                    is_sure(house, way, moments)
                course, pairs = caught.exception.course, caught.exception.asks
                self.assertEqual(pairs, ((-1, -1),) * moments)
                self.assertTrue(goes_by_way(house, way, moments, course, pairs))

    def test_many_rows_with_many_ways_on(self):
        # All answers lead on to another row; the far rows are come to in many ways.
        rows = []
        for at in range(200):
            ahead = [at + 1 if at < 199 else -1, at + 2 if at < 198 else -1, at + 3 if at < 197 else -1]
            rows.append((at % 3, tuple(-1 if name == at % 3 else ahead[name] for name in range(3))))
        for moments in (1, 2, 30, 59, 60):
            with self.assertRaises(NotSure) as caught:
                is_sure((3, 1, 1), tuple(rows), moments)
            course, pairs = caught.exception.course, caught.exception.asks
            self.assertTrue(goes_by_way((3, 1, 1), tuple(rows), moments, course, pairs))
            self.assertEqual(len(pairs), moments)

    def test_rows_that_nothing_leads_to(self):
        way = ((0, (-1, 2)), (-1, (-1,)), (1, (4, -1)), (0, (-1, -1)), (0, (-1, -1)), (1, (-1, -1)))
        self.assertIs(is_sure((2, 2, 0), way, 3), True)
        self.assertFalse(self.as_told((2, 2, 0), way, 2))


if __name__ == "__main__":
    unittest.main()
