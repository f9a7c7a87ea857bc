import itertools
import unittest

from sentnext.errors import AskError, BadText, NoCourse, NoLedger, NoRing, NothingDone, NotSure

KEPT = [
    (NoRing, ("word",)),
    (NoLedger, ("word", "number")),
    (NotSure, ("course", "asks")),
    (NoCourse, ("number",)),
    (NothingDone, ()),
    (BadText, ("line", "word")),
]
WORTHS = ["shape", "", 0, -1, 10 ** 599, True, None, (), (0, 1), ((0, -1), (1, 0)), [1, [2]]]


class Errors(unittest.TestCase):
    def test_ask_error_is_a_value_error(self):
        self.assertEqual(AskError.__bases__, (ValueError,))

    def test_each_stands_directly_under_ask_error(self):
        for kind, _ in KEPT:
            self.assertEqual(kind.__bases__, (AskError,), kind)

    def test_kept_by_position(self):
        for kind, words in KEPT:
            for worths in itertools.permutations(WORTHS, len(words)):
                error = kind(*worths)
                for word, worth in zip(words, worths):
                    self.assertIs(getattr(error, word), worth)

    def test_kept_by_name_in_any_order(self):
        for kind, words in KEPT:
            for worths in itertools.permutations(WORTHS, len(words)):
                pairs = list(zip(words, worths))
                for order in itertools.permutations(pairs):
                    error = kind(**dict(order))
                    for word, worth in pairs:
                        self.assertIs(getattr(error, word), worth)

    def test_kept_by_position_and_name(self):
        error = NoLedger("falls", number=4)
        self.assertEqual((error.word, error.number), ("falls", 4))
        error = NotSure((0, 1), asks=((0, 1),))
        self.assertEqual((error.course, error.asks), ((0, 1), ((0, 1),)))
        error = BadText(2, word=0)
        self.assertEqual((error.line, error.word), (2, 0))

    def test_raised_and_caught(self):
        for kind, words in KEPT:
            for base in (kind, AskError, ValueError):
                with self.assertRaises(base) as caught:
                    raise kind(*[7 for _ in words])
                for word in words:
                    self.assertEqual(getattr(caught.exception, word), 7)

    def test_wrong_counts_are_refused(self):
        for kind, words in KEPT[:4] + KEPT[5:]:
            with self.assertRaises(TypeError):
                kind()
            with self.assertRaises(TypeError):
                kind(*[0 for _ in range(len(words) + 1)])


if __name__ == "__main__":
    unittest.main()
