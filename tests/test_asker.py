import itertools
import unittest

from sentnext.asker import Asker
from sentnext.errors import AskError, NoCourse, NothingDone
from sentnext.logs import is_log, may_head
from tests.values import H, HOUSES, ODD, same

WAIT = (-1, -1)
CALM = (3, 6, 0)
METHODS = ["house", "log", "ask", "wait", "undo", "may", "sure", "twin", "__len__", "__eq__", "__ne__"]


def seen(asker):
    """All that can be asked of an asker."""
    return (asker.house, asker.log, len(asker), asker.may(), asker.sure())


def told(house, log):
    """All that can be asked of an asker with this house and log."""
    heads = may_head(house, log)
    return (house, log, len(log), heads, heads[0] if len(heads) == 1 else None)


def told_to(house, log):
    """An asker that was told this log."""
    asker = Asker(house)
    for server, name in log:
        asker.wait() if server == -1 else asker.ask(server, name)
    return asker


class Askers(unittest.TestCase):
    def is_at(self, asker, house, log):
        """The asker has this house and log, and tells what these say."""
        self.assertTrue(same(seen(asker), told(house, log)), (house, log))


class New(Askers):
    def test_of_each_house(self):
        for house in HOUSES:
            asker = Asker(house)
            self.is_at(asker, house, ())
            self.assertTrue(same(asker.may(), tuple(range(house[0]))))
            self.assertIsNone(asker.sure())

    def test_each_method_stands_in_the_class_itself(self):
        for word in METHODS:
            self.assertIn(word, vars(Asker))
        self.assertIsInstance(vars(Asker)["house"], property)
        self.assertIsInstance(vars(Asker)["log"], property)

    def test_arguments_by_name(self):
        asker = Asker(house=H)
        self.assertTrue(same(asker.ask(server=0, name=1), 1))
        self.assertTrue(same(asker.ask(name=2, server=1), 2))
        self.assertTrue(same(asker.ask(2, name=1), 3))
        self.is_at(asker, H, ((0, 1), (1, 2), (2, 1)))


class AskAndWait(Askers):
    def test_ordinary(self):
        asker = Asker((3, 2, 0))
        self.assertTrue(same(asker.ask(0, 1), 1))
        self.assertTrue(same(asker.may(), (0, 1, 2)))
        self.assertTrue(same(asker.ask(1, 2), 2))
        self.assertTrue(same((asker.may(), asker.sure()), ((2,), 2)))
        self.assertTrue(same(asker.wait(), 3))
        self.assertTrue(same((asker.may(), asker.sure()), ((0, 1, 2), None)))
        self.assertTrue(same(asker.log, ((0, 1), (1, 2), WAIT)))

    def test_sure_of_server_0(self):
        asker = told_to((2, 2, 0), ((0, 1), (1, 0)))
        self.assertTrue(same(asker.may(), (0,)))
        self.assertTrue(same(asker.sure(), 0))

    def test_all_logs_of_small_houses(self):
        for house in [(2, 1, 0), (2, 3, 1), (2, 2, 3), (3, 2, 1), (4, 3, 0)]:
            pairs = [WAIT] + list(itertools.permutations(range(house[0]), 2))
            for log in itertools.product(pairs, repeat=3):
                self.follows(house, log)

    def follows(self, house, log):
        """Told a log pair by pair, an asker tells at each what the log says, and refuses as it does."""
        asker = Asker(house)
        kept = ()
        for pair in log:
            try:
                may_head(house, kept + (pair,))
            except NoCourse as refused:
                with self.assertRaises(NoCourse) as caught:
                    asker.ask(*pair)
                self.assertTrue(same(caught.exception.number, refused.number))
                self.assertEqual(refused.number, len(kept))
            else:
                kept = kept + (pair,)
                self.assertTrue(same(asker.wait() if pair == WAIT else asker.ask(*pair), len(kept)))
            self.is_at(asker, house, kept)

    def test_an_answer_that_no_course_gives(self):
        asker = told_to(CALM, ((0, 1), (0, 1), (1, 2)))
        before = seen(asker)
        for server, name in [(0, 1), (2, 1), (1, 0), (2, 0)]:
            with self.assertRaises(NoCourse) as caught:
                asker.ask(server, name)
            self.assertTrue(same(caught.exception.number, 3))
            self.assertIsInstance(caught.exception, AskError)
            self.assertTrue(same(seen(asker), before))
        self.assertTrue(same(asker.ask(0, 2), 4))
        with self.assertRaises(NoCourse) as caught:
            asker.ask(name=0, server=1)
        self.assertTrue(same(caught.exception.number, 4))
        self.is_at(asker, CALM, ((0, 1), (0, 1), (1, 2), (0, 2)))

    def test_up_to_thirty_moments(self):
        asker = Asker((2, 6, 1))
        log = ()
        for many in range(1, 31):
            pair = WAIT if many % 3 == 0 else (0, 1)
            self.assertTrue(same(asker.wait() if pair == WAIT else asker.ask(*pair), many))
            log = log + (pair,)
            self.is_at(asker, (2, 6, 1), log)
            self.assertIs(is_log((2, 6, 1), asker.log), True)
        for many in range(29, -1, -1):
            self.assertTrue(same(asker.undo(), many))
            self.is_at(asker, (2, 6, 1), log[:many])
        with self.assertRaises(NothingDone):
            asker.undo()

    def test_refused_at_the_thirtieth_moment(self):
        asker = told_to(CALM, ((0, 1),) * 27 + ((1, 2), WAIT))
        for server, name in [(0, 1), (1, 0), (2, 0), (2, 1)]:
            with self.assertRaises(NoCourse) as caught:
                asker.ask(server, name)
            self.assertTrue(same(caught.exception.number, 29))
        self.assertTrue(same(asker.ask(0, 2), 30))
        self.assertTrue(same(asker.sure(), 2))


class Undo(Askers):
    def test_nothing_done(self):
        for house in HOUSES[::7]:
            asker = Asker(house)
            for _ in range(2):
                with self.assertRaises(NothingDone) as caught:
                    asker.undo()
                self.assertIsInstance(caught.exception, AskError)
                self.is_at(asker, house, ())
            asker.wait()
            self.assertTrue(same(asker.undo(), 0))
            with self.assertRaises(NothingDone):
                asker.undo()
            self.assertTrue(same(asker.ask(0, 1), 1))

    def test_another_answer_in_the_place_of_the_one_taken_back(self):
        asker = told_to(CALM, ((0, 1), (1, 2)))
        self.assertTrue(same(asker.sure(), 2))
        self.assertTrue(same(asker.undo(), 1))
        self.is_at(asker, CALM, ((0, 1),))
        self.assertTrue(same(asker.ask(1, 0), 2))
        self.assertTrue(same(asker.sure(), 0))

    def test_what_was_refused_is_not_taken_back(self):
        asker = told_to(CALM, ((0, 1), (1, 2)))
        with self.assertRaises(NoCourse):
            asker.ask(2, 1)
        self.assertTrue(same(asker.undo(), 1))
        self.is_at(asker, CALM, ((0, 1),))

    def test_in_any_order(self):
        deeds = ["undo", WAIT, (0, 1), (1, 0), (1, 2)]
        for order in itertools.product(deeds, repeat=5):
            asker = Asker((3, 4, 1))
            log = ()
            for deed in order:
                log = self.does(asker, deed, log)
            self.is_at(asker, (3, 4, 1), log)

    def does(self, asker, deed, log):
        """Does a deed and looks at what it tells; the log behind it is returned."""
        if deed == "undo" and not log:
            self.assertRaises(NothingDone, asker.undo)
            return log
        if deed == "undo":
            self.assertTrue(same(asker.undo(), len(log) - 1))
            return log[:-1]
        try:
            may_head(asker.house, log + (deed,))
        except NoCourse:
            self.assertRaises(NoCourse, asker.ask, *deed)
            return log
        self.assertTrue(same(asker.wait() if deed == WAIT else asker.ask(*deed), len(log) + 1))
        return log + (deed,)


class Twin(Askers):
    def test_the_same_house_and_log(self):
        for log in [(), (WAIT,), ((0, 1), (1, 2), WAIT)]:
            asker = told_to(H, log)
            twin = asker.twin()
            self.assertIsInstance(twin, Asker)
            self.assertIsNot(twin, asker)
            self.assertIs(twin == asker, True)
            self.is_at(twin, H, log)

    def test_each_goes_its_own_way(self):
        asker = told_to(CALM, ((0, 1),))
        twin = asker.twin()
        twin.ask(1, 2)
        self.is_at(asker, CALM, ((0, 1),))
        asker.ask(1, 0)
        asker.wait()
        self.is_at(twin, CALM, ((0, 1), (1, 2)))
        self.is_at(asker, CALM, ((0, 1), (1, 0), WAIT))
        third = twin.twin()
        self.assertTrue(same([twin.undo(), twin.undo()], [1, 0]))
        self.is_at(third, CALM, ((0, 1), (1, 2)))
        self.is_at(asker, CALM, ((0, 1), (1, 0), WAIT))
        with self.assertRaises(NothingDone):
            twin.undo()

    def test_a_log_that_was_told_stays_as_it_was(self):
        asker = told_to(CALM, ((0, 1),))
        log, may = asker.log, asker.may()
        asker.ask(1, 2)
        self.assertTrue(same((log, may), (((0, 1),), (0, 1, 2))))


class Equal(Askers):
    def alike(self, one, other, told):
        """Whether both are equal is told so from either side."""
        for left, right in [(one, other), (other, one)]:
            self.assertIs(left == right, told)
            self.assertIs(left != right, not told)

    def test_askers(self):
        houses = [(2, 1, 0), (2, 2, 0), (2, 1, 1), (3, 1, 0)]
        logs = [(), (WAIT,), ((0, 1),), ((1, 0),), (WAIT, WAIT), ((0, 1), WAIT)]
        every = list(itertools.product(houses, logs))
        for one, other in itertools.product(every, repeat=2):
            self.alike(told_to(*one), told_to(*other), one == other)

    def test_equal_by_another_course_of_deeds(self):
        one = told_to(H, ((0, 1),))
        other = told_to(H, ((1, 2), WAIT))
        self.alike(one, other, False)
        other.undo()
        other.undo()
        other.ask(0, 1)
        self.alike(one, other, True)
        self.alike(one, one, True)
        one.wait()
        self.alike(one, other, False)

    def test_other_values(self):
        for log in [(), ((0, 1),)]:
            asker = told_to(H, log)
            for value in ODD + [H, log, (H, log), len(log), asker.may(), [asker], (asker,)]:
                self.alike(asker, value, False)


if __name__ == "__main__":
    unittest.main()
