import copy
import itertools
import unittest

from sentnext.errors import AskError, NoCourse
from sentnext.logs import is_log, last_change, may_head
from tests.values import (
    BIG, H, HOUSES, ODD, T, TABLES, fitting, replaced, same, told_course, told_names, told_stories,
)

WAIT = (-1, -1)


def pairs_of(house):
    """Every pair that may stand in a log."""
    return [WAIT] + list(itertools.permutations(range(house[0]), 2))


def told_fit(house, log):
    """The courses up to the moment behind the log in which it may be told, and its first wrong pair or None."""
    servers, _, lag = house
    found = [course for course in itertools.product(range(servers), repeat=lag + 1) if told_course(house, course)]
    for number, (server, name) in enumerate(log):
        if server != -1:
            found = [course for course in found if name in told_names(house, course, lag + number, server)]
        if not found:
            return [], number
        found = [course + (head,) for course in found for head in range(servers)]
        found = [course for course in found if told_course(house, course)]
    return found, None


def told_last_change(found):
    """The least and the greatest number of moments since the head changed last, over these courses."""
    agos = []
    for course in found:
        changes = [m for m in range(1, len(course)) if course[m] != course[m - 1]]
        agos.append(len(course) - 1 - changes[-1] if changes else None)
    changed = [ago for ago in agos if ago is not None]
    if not changed:
        return (None, None)
    return (min(changed), None if None in agos else max(changed))


class Logs(unittest.TestCase):
    def refused(self, house, log, number):
        """Both functions refuse the log with this number."""
        for function in (may_head, last_change):
            with self.assertRaises(NoCourse) as caught:
                function(house, log)
            self.assertTrue(same(caught.exception.number, number), (function, house, log))

    def as_told(self, house, log):
        """Both functions say of a log what all courses gone through say; the wrong pair is returned."""
        found, number = told_fit(house, log)
        if number is None:
            self.assertTrue(same(may_head(house, log), tuple(sorted({course[-1] for course in found}))), (house, log))
            self.assertTrue(same(last_change(house, log), told_last_change(found)), (house, log))
        else:
            self.refused(house, log, number)
        return number


class IsLog(unittest.TestCase):
    def refused(self, house, values):
        for value in values:
            self.assertIs(is_log(house, value), False, str(value)[:200])

    def test_ordinary(self):
        for house in HOUSES:
            for log in [(), ((0, 1),), (WAIT,), ((1, 0), WAIT, WAIT, (0, 1)), ((0, 1), (0, 1), (1, 0))]:
                self.assertIs(is_log(house, log), True, (house, log))

    def test_pairs_that_no_course_lets_be(self):
        # Without lag nobody is told of 0, then of 2, and of 1 one moment later where the head must rest.
        log = ((1, 0), (1, 2), (0, 1))
        self.assertIs(is_log((3, 6, 0), log), True)
        with self.assertRaises(NoCourse):
            may_head((3, 6, 0), log)

    def test_so_many_pairs(self):
        for pair in [WAIT, (0, 1), (1, 0)]:
            for many in (1, 2, 29, 30):
                self.assertIs(is_log(H, (pair,) * many), True)
            self.refused(H, [(pair,) * 31, (pair,) * 32, (pair,) * 300])

    def test_servers_and_names(self):
        for house in [(2, 3, 1), (3, 1, 0), (4, 2, 2)]:
            servers = range(house[0])
            for pair in itertools.product(range(-3, 7), repeat=2):
                told = pair == WAIT or (pair[0] in servers and pair[1] in servers and pair[0] != pair[1])
                self.assertIs(is_log(house, (pair,)), told, (house, pair))
                self.assertIs(is_log(house, ((0, 1), pair, WAIT)), told, (house, pair))
        self.refused(H, [((0, BIG),), ((BIG, 0),), ((-BIG, -BIG),), ((BIG, BIG),)])

    def test_that_are_no_pairs(self):
        for part in [(), (0,), (0, 1, 2), (-1, -1, -1), (-1,), 0, -1, None, True, "01", [0, 1], ((0, 1),)]:
            self.refused(H, [(part,), ((0, 1), part), (part, WAIT)])
        self.refused(H, [(0, 1), WAIT, (0,), [(0, 1)], [], [[0, 1]], ((0, None),), (("0", "1"),), ((0, (1,)),)])

    def test_other_kinds_in_one_place(self):
        self.refused(H, replaced(((0, 1), WAIT, (2, 0))))
        self.refused((2, 1, 0), replaced(((1, 0),)))

    def test_any_value(self):
        for house in [(2, 1, 0), H, (4, 6, 2)]:
            self.refused(house, [odd for odd in ODD if not same(odd, ())])
            self.refused(house, [(odd,) for odd in ODD] + [((0, 1),) * 29 + (odd,) for odd in ODD])
            self.refused(house, [((0, odd),) for odd in ODD if not same(odd, 1)])
            self.refused(house, [((odd, 0),) for odd in ODD if not same(odd, 1)])

    def test_nothing_is_changed(self):
        for value in [[[0, 1]], ([0, 1], [-1, -1]), ((0, [1]),)]:
            before = copy.deepcopy(value)
            self.assertIs(is_log(H, value), False)
            self.assertTrue(same(value, before))


class MayHead(Logs):
    def test_the_empty_log(self):
        for house in HOUSES:
            self.assertTrue(same(may_head(house, ()), tuple(range(house[0]))), house)

    def test_ordinary(self):
        # Without lag the one that was named heads, and it stays so only as long as it must.
        self.assertTrue(same(may_head((3, 1, 0), ((0, 1),)), (0, 1, 2)))
        self.assertTrue(same(may_head((3, 2, 0), ((0, 1), (1, 2))), (2,)))
        self.assertTrue(same(may_head((3, 2, 0), ((0, 1), (1, 2), (0, 2))), (0, 1, 2)))
        self.assertTrue(same(may_head((3, 3, 0), ((0, 1), (1, 2), (0, 2))), (2,)))

    def test_who_ceased_to_head_knows_who_comes_behind(self):
        # By two askings 1 headed, then 0; and 1 names none from ahead of its own heading.
        self.assertTrue(same(may_head((3, 3, 1), (WAIT, (1, 0))), (0, 1, 2)))
        self.assertTrue(same(may_head((3, 3, 1), ((1, 0), (0, 1))), (1,)))

    def test_small_houses_and_logs(self):
        for house in [house for house in HOUSES if house[0] == 2]:
            for many in range(5):
                for log in itertools.product(pairs_of(house), repeat=many):
                    self.as_told(house, log)

    def test_larger_houses(self):
        some = [(3, 1, 0), (3, 2, 0), (3, 4, 0), (3, 1, 1), (3, 2, 1), (3, 3, 1), (3, 2, 2), (3, 4, 2), (3, 2, 3)]
        for house in some:
            for many in range(3):
                for log in itertools.product(pairs_of(house), repeat=many):
                    self.as_told(house, log)
            for log in list(itertools.product(pairs_of(house), repeat=3))[::5]:
                self.as_told(house, log)
        for house in [(4, 1, 0), (4, 3, 0), (4, 2, 1), (4, 4, 1), (4, 3, 2)]:
            for log in itertools.product(pairs_of(house), repeat=2):
                self.as_told(house, log)

    def test_every_refusal_has_its_place(self):
        told = set()
        for house in [(3, 3, 0), (3, 2, 1), (4, 4, 1)]:
            for log in list(itertools.product(pairs_of(house), repeat=4))[::97]:
                told.add(self.as_told(house, log))
        # The head may change behind the first pair, so that the second one is never the wrong one.
        self.assertEqual(told, {None, 2, 3})

    def test_the_first_pair_up_to_which_there_is_none(self):
        house = (3, 6, 0)
        for waits in range(28):
            ahead = ((0, 1),) * waits
            # The head changes at the second pair of those behind, so it cannot at the third one.
            self.refused(house, ahead + ((0, 1), (1, 2), (2, 0)), waits + 2)
            self.refused(house, ahead + ((0, 1), (1, 2), (2, 0)) + ((0, 2),) * (27 - waits), waits + 2)

    def test_at_the_first_place(self):
        # A log's first pair is always one that some course gives, if it is of servers of the house.
        for house in HOUSES:
            for pair in pairs_of(house):
                self.assertIsNone(self.as_told(house, (pair,)))
        # This is none, but told likewise: nobody names itself.
        self.refused((2, 1, 0), ((0, 0),), 0)
        with self.assertRaises(AskError):
            may_head((2, 1, 0), ((0, 0),))


class LastChange(Logs):
    def test_the_example(self):
        self.assertTrue(same(last_change((2, 1, 1), ()), (0, None)))

    def test_the_empty_log(self):
        for house in HOUSES:
            # At the moment 0 the head cannot have changed.
            told = (None, None) if house[2] == 0 else (0, None)
            self.assertTrue(same(last_change(house, ()), told), house)

    def test_each_kind_of_answer(self):
        house = (3, 3, 0)
        log = ((0, 1), (0, 1), (1, 2))
        # The head changed at the moment 2, and it must stay at 3 and 4, but not at 5.
        self.assertTrue(same(last_change(house, log[:1]), (0, None)))
        self.assertTrue(same(last_change(house, log), (1, 1)))
        self.assertTrue(same(last_change(house, log + (WAIT,)), (2, 2)))
        self.assertTrue(same(last_change(house, log + (WAIT, WAIT)), (0, 3)))
        self.assertTrue(same(last_change(house, log + (WAIT, WAIT, (0, 2))), (0, 4)))
        self.assertTrue(same(last_change(house, log + (WAIT, WAIT, (2, 0))), (1, 1)))

    def test_waits_alone(self):
        for house in HOUSES:
            servers, rest, lag = house
            for many in (0, 1, 2, 7, 30):
                told = (None, None) if lag + many == 0 else (0, None)
                self.assertTrue(same(last_change(house, (WAIT,) * many), told), (house, many))
                self.assertTrue(same(may_head(house, (WAIT,) * many), tuple(range(servers))), (house, many))


class LongLogs(Logs):
    def test_one_head_all_the_while(self):
        for rest in range(1, 7):
            for many in range(1, 31):
                log = ((0, 1),) * many
                self.assertTrue(same(may_head((2, rest, 0), log), (0, 1)))
                self.assertTrue(same(last_change((2, rest, 0), log), (0, None)))

    def test_one_change_and_no_other_one(self):
        for rest, at in itertools.product(range(1, 7), range(1, 30)):
            for many in range(at + 1, 31):
                log = ((0, 1),) * at + ((1, 0),) * (many - at)
                ago = many - at
                told = (0, ago) if ago >= rest else (ago, ago)
                self.assertTrue(same(last_change((2, rest, 0), log), told), (rest, log))
                self.assertTrue(same(may_head((2, rest, 0), log), (0, 1) if ago >= rest else (0,)), (rest, log))

    def test_changes_as_soon_as_can_be(self):
        for rest in range(1, 7):
            heads = [(moment // rest) % 3 for moment in range(30)]
            log = tuple(((head + 1) % 3, head) for head in heads)
            self.assertIsNone(self.as_told((3, rest, 0), log))
            self.assertIsNone(self.as_told((3, rest, 1), log[:20]))
            if rest > 1:
                # From 0 to 1, and to 2 a moment later.
                soon = log[:rest + 1] + ((0, 2),) + log[rest + 2:]
                self.assertEqual(self.as_told((3, rest, 0), soon), rest + 1)

    def test_few_are_known_for_sure(self):
        # The courses that fit are few all the while, so that they can be gone through.
        for house in [(2, 4, 3), (3, 6, 1), (3, 6, 2), (4, 6, 1), (3, 5, 3)]:
            servers = house[0]
            for step in (7, 8, 11):
                heads = [(moment // step) % servers for moment in range(34)]
                log = []
                for moment in range(house[2], house[2] + 30):
                    server = (heads[moment] + 1) % servers
                    log.append((server, max(told_names(house, heads, moment, server))))
                self.assertIsNone(self.as_told(house, tuple(log)))

    def test_waits_in_between(self):
        for house in [(2, 3, 0), (2, 5, 1), (3, 6, 0)]:
            for at in range(1, 9):
                log = (WAIT,) * at + ((0, 1), WAIT, (1, 0)) + (WAIT,) * (10 - at) + ((0, 1),)
                self.as_told(house, log)
        for many in range(28):
            log = ((1, 0), (0, 1)) + (WAIT,) * many
            told = (0, many + 1) if many + 1 >= 6 else (many + 1, many + 1)
            self.assertTrue(same(last_change((2, 6, 0), log), told))

    def test_more_than_thirty(self):
        for many in (31, 35, 60):
            self.assertTrue(same(may_head((2, 6, 0), ((0, 1),) * many), (0, 1)))
            self.assertTrue(same(last_change((2, 6, 0), ((0, 1),) * many + ((1, 0),)), (1, 1)))


class Stories(Logs):
    def test_what_a_story_tells_is_a_log(self):
        for house, table in fitting([(2, 1, 1), (2, 3, 0), (3, 2, 1), (3, 3, 2)], [T] + TABLES[2:]):
            for (course, pairs), asker in told_stories(house, table, 3):
                if asker is not None:
                    self.assertIs(is_log(house, pairs), True)
                    self.assertIn(course[-1], [course[-1]] + list(may_head(house, pairs)))
                    # Whoever heads at its last moment may head behind it, too.
                    self.assertIn(course[-1], may_head(house, pairs))

    def test_asked_again_and_in_between(self):
        log = ((0, 1), WAIT, (2, 0))
        first = (may_head(H, log), last_change(H, log))
        self.refused((3, 6, 0), log[:1] + ((1, 2), (2, 0)), 2)
        self.assertTrue(same((may_head(H, log), last_change(H, log)), first))
        self.assertEqual(log, ((0, 1), WAIT, (2, 0)))


if __name__ == "__main__":
    unittest.main()
