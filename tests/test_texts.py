import itertools
import unittest

from sentnext.errors import AskError, BadText
from sentnext.texts import read_table, table_text
from tests.values import H, HOUSES, T, TABLES, WAITS, same, small_tables

TEXT = "house 3 2 1\nnamed 0 1\nnext 0 0\n"
HEAD = "house 3 2 1\n"
SIX = (("named", 1, 5), ("next", 2, 4), ("wait", 3, 3), ("named", 4, 2), ("next", 5, 1), ("wait", 0, 0))
DEEDS = ("named", "next", "wait")
WRONG_NUMBERS = [
    "", "-0", "-1", "+1", "+0", "00", "01", "02", "007", "1.", "1.0", "1e0", "0x1", "1_0", "_1", "1,", "(1)", "one",
    "\t1", "1\t", "\r", "1\r", "\u0661", "\u00b2", "\uff11", "\u2160", "6", "7", "9", "10", "12", "1" * 5000,
    "9" * 600, "0" * 600, "None", "True", "named", "house", "\u00a01", "1\x0b", "1\x0c", "1\x85", "1\u2028",
]


def told_number(word, low, high):
    """Whether a word is an integer from low to high, as the document says it."""
    if word == "" or any(sign not in "0123456789" for sign in word):
        return False
    if len(word) > 1 and word[0] == "0":
        return False
    return len(word) < 5 and low <= int(word) <= high


def fits(number, at, words):
    """Whether a word can stand where it does, all ahead of it being right."""
    word = words[at]
    if number > 6 or at > 3 or number > 0 and at > 2:
        return False
    if number > 0:
        return word in DEEDS if at == 0 else told_number(word, 0, 5)
    if at == 0:
        return word == "house"
    if at < 3:
        return told_number(word, 2, 4) if at == 1 else told_number(word, 1, 6)
    return told_number(word, 0, 3) and int(words[1]) ** (int(word) + 1) <= 81


def told_text(text):
    """The house and the table with this text, or the place of its fault."""
    ends = text.endswith("\n")
    lines = [line.split(" ") for line in (text[:-1] if ends else text).split("\n")] if text else []
    for number, words in enumerate(lines):
        for at in range(len(words)):
            if not fits(number, at, words):
                return number, at
        if len(words) < (3 if number else 4):
            return number, len(words)
    for number, words in enumerate(lines[1:], 1):
        for at in (1, 2):
            if int(words[at]) >= len(lines) - 1:
                return number, at
    if len(lines) < 2 or not ends:
        return len(lines), 0
    house = tuple(int(word) for word in lines[0][1:])
    return house, tuple((words[0], int(words[1]), int(words[2])) for words in lines[1:])


class Texts(unittest.TestCase):
    def fault(self, text, line, word):
        """The text is refused at this word of this text line."""
        with self.assertRaises(BadText) as caught:
            read_table(text)
        error = caught.exception
        self.assertTrue(same((error.line, error.word), (line, word)), (text[:200], error.line, error.word))
        self.assertIsInstance(error, AskError)

    def as_told(self, text):
        """The text is read, or refused, as the document says it."""
        told = told_text(text)
        if isinstance(told[0], tuple):
            self.assertTrue(same(read_table(text), told), text[:200])
            self.assertEqual(table_text(*told), text)
        else:
            self.fault(text, *told)


class TableText(Texts):
    def test_the_example(self):
        self.assertEqual(table_text(H, T), TEXT)
        self.assertTrue(same(read_table(TEXT), (H, T)))

    def test_written_out(self):
        self.assertEqual(table_text((2, 6, 3), (("wait", 0, 0),)), "house 2 6 3\nwait 0 0\n")
        self.assertEqual(
            table_text((4, 1, 0), SIX),
            "house 4 1 0\nnamed 1 5\nnext 2 4\nwait 3 3\nnamed 4 2\nnext 5 1\nwait 0 0\n",
        )

    def test_both_ways(self):
        tables = TABLES + WAITS + [SIX] + small_tables(1) + small_tables(2)[::7] + small_tables(3)[::499]
        for house, table in itertools.product(HOUSES, tables):
            text = table_text(house, table)
            self.assertTrue(same(read_table(text), (house, table)))
            self.assertEqual(table_text(*read_table(text)), text)

    def test_where_house_and_table_are_not_asked_of_together(self):
        # 81 rows of heads times 6 rows of the table are more than 200.
        text = table_text((3, 1, 3), SIX)
        self.assertTrue(same(read_table(text), ((3, 1, 3), SIX)))


class Words(Texts):
    def each_word(self, text):
        """For each word of a text its text line, its number, and the text around it."""
        for number, line in enumerate(text.split("\n")[:-1]):
            words = line.split(" ")
            for at in range(len(words)):
                yield number, at, text.split("\n")[:number], words, text.split("\n")[number + 1:]

    def put(self, ahead, words, behind):
        return "\n".join(ahead + [" ".join(words)] + behind)

    def test_a_wrong_word(self):
        wrong = WRONG_NUMBERS + ["Named", "NEXT", "waits", "nam", "\tnamed", "named\t", "House", "houses", "hous"]
        for text in (TEXT, table_text((2, 6, 0), SIX)):
            for number, at, ahead, words, behind in self.each_word(text):
                for word in wrong:
                    others = words[:at] + [word] + words[at + 1:]
                    if fits(number, at, others):
                        self.assertIn(word, ("6", "house") if number == 0 else DEEDS)
                        self.as_told(self.put(ahead, others, behind))
                    else:
                        self.fault(self.put(ahead, others, behind), number, at)

    def test_two_blanks_and_blanks_at_either_end(self):
        for number, at, ahead, words, behind in self.each_word(TEXT):
            self.fault(self.put(ahead, words[:at] + [""] + words[at:], behind), number, at)
            self.fault(self.put(ahead, words + [""], behind), number, len(words))
            self.fault(self.put(ahead, words + ["", ""], behind), number, len(words))

    def test_a_word_too_many(self):
        for number, at, ahead, words, behind in self.each_word(TEXT):
            for more in (["0"], ["named"], ["0", "0"], ["house"] * 1000):
                self.fault(self.put(ahead, words + more, behind), number, len(words))

    def test_a_text_line_that_ends_too_early(self):
        for number, at, ahead, words, behind in self.each_word(TEXT):
            # Without its words a text line is empty, and has the one wrong word "".
            self.fault(self.put(ahead, words[:at], behind), number, at)

    def test_tabs(self):
        for text in (TEXT, table_text((2, 6, 0), SIX)):
            for at in range(len(text)):
                self.as_told(text[:at] + "\t" + text[at:])
                self.as_told(text[:at] + "\t" + text[at + 1:])
        self.fault(TEXT.replace(" ", "\t"), 0, 0)
        self.fault("house 3 2\t1\nnamed 0 0\n", 0, 2)
        self.fault("house 3 2 1\nnamed\t0 0\n", 1, 0)

    def test_deeds(self):
        for deed in DEEDS:
            self.assertTrue(same(read_table(HEAD + deed + " 0 0\n"), (H, ((deed, 0, 0),))))
        for deed in ("", "house", "ask", "Named", "named,", "0", "-1", "nam\u00e9d", "wait\r", "None"):
            self.fault(HEAD + deed + " 0 0\n", 1, 0)
            self.fault(HEAD + "next 1 0\n" + deed + " 0 0\n", 2, 0)


class Bounds(Texts):
    def test_numbers_of_the_house(self):
        for numbers in itertools.product(range(7), range(9), range(6)):
            text = "house " + " ".join([str(number) for number in numbers]) + "\nwait 0 0\n"
            if numbers in HOUSES:
                self.assertTrue(same(read_table(text), (numbers, (("wait", 0, 0),))))
            elif not 2 <= numbers[0] <= 4:
                self.fault(text, 0, 1)
            elif not 1 <= numbers[1] <= 6:
                self.fault(text, 0, 2)
            else:
                self.fault(text, 0, 3)

    def test_a_lag_that_is_too_great_for_the_servers(self):
        for rest in range(1, 7):
            self.fault(f"house 4 {rest} 3\nwait 0 0\n", 0, 3)
            self.fault(f"house 4 {rest} 3 0\nwait 0 0\n", 0, 3)
            self.fault(f"house 4 {rest} 3 \nwait 0 0\n", 0, 3)
            self.fault(f"house 4 {rest} 2 \nwait 0 0\n", 0, 4)
            self.fault(f"house 4 {rest} 3\nwait 9 0\n", 0, 3)
            self.fault(f"house 4 {rest} 3", 0, 3)
            for servers, lag in [(2, 3), (3, 3), (4, 2)]:
                self.assertEqual(read_table(f"house {servers} {rest} {lag}\nwait 0 0\n")[0], (servers, rest, lag))

    def test_numbers_of_rows_from_6_on(self):
        for number in ("6", "7", "10", "99", "6" * 700):
            for at, row in [(1, f"next {number} 0"), (2, f"next 0 {number}"), (1, f"next {number} {number}")]:
                self.fault(HEAD + row + "\n", 1, at)
                self.fault(HEAD + "next 5 5\n" + row + "\n", 2, at)
                self.fault(HEAD + row + "\n" + "next x 0\n", 1, at)

    def test_rows_beyond_the_sixth(self):
        rows = "wait 5 5\n" * 6
        self.assertTrue(same(read_table(HEAD + rows), (H, (("wait", 5, 5),) * 6)))
        for seventh in ("wait 0 0\n", "wait 0 0", "\n", " \n", "x", "wait 9 9\n", "wait", "wait 0 0\nwait 0 0\n"):
            self.fault(HEAD + rows + seventh, 7, 0)
        self.fault(HEAD + "wait 0 0\n" * 100, 7, 0)
        # What is wrong ahead of the seventh row is told first.
        self.fault(HEAD + "wait 0 0\n" * 5 + "wait 0 6\n" + "wait 0 0\n", 6, 2)
        self.fault(HEAD + "wait 0 0\n" * 5 + "wait 0\n" + "wait 0 0\n", 6, 2)


class NoneOfTheTables(Texts):
    def test_alone(self):
        for rows in range(1, 6):
            for number, at, many in itertools.product(range(1, rows + 1), (1, 2), range(rows, 6)):
                lines = [["next", "0", str(rows - 1)] for _ in range(rows)]
                lines[number - 1][at] = str(many)
                text = HEAD + "".join([" ".join(line) + "\n" for line in lines])
                self.fault(text, number, at)
                self.fault(text[:-1], number, at)

    def test_the_first_one_of_several(self):
        self.fault(HEAD + "next 0 2\nnext 3 0\n", 1, 2)
        self.fault(HEAD + "next 4 2\nnext 3 0\n", 1, 1)
        self.fault(HEAD + "next 1 1\nnext 0 5\n", 2, 2)

    def test_behind_every_other_wrong_word(self):
        self.fault(HEAD + "next 3 0\nnext 0 x\n", 2, 2)
        self.fault(HEAD + "next 3 0\nnext 0\n", 2, 2)
        self.fault(HEAD + "next 3 0\nnext 0 0 0\n", 2, 3)
        self.fault(HEAD + "next 3 0\n\n", 2, 0)
        self.fault(HEAD + "next 3 0\nnext 0 6\n", 2, 2)

    def test_ahead_of_a_missing_line_feed(self):
        self.fault(HEAD + "next 0 1", 1, 2)
        self.fault(HEAD + "next 0 0\nnext 2 0", 2, 1)
        self.fault(HEAD + "next 0 0", 2, 0)
        self.fault(HEAD + "next 0 1\nnext 1 0", 3, 0)


class Ends(Texts):
    def test_the_empty_text(self):
        self.fault("", 0, 0)

    def test_empty_text_lines(self):
        self.fault("\n", 0, 0)
        self.fault("\n\n\n", 0, 0)
        self.fault("\n" + TEXT, 0, 0)
        self.fault(TEXT + "\n", 3, 0)
        self.fault(TEXT + "\n\n", 3, 0)
        self.fault(HEAD + "\n" + "wait 0 0\n", 1, 0)
        self.fault(HEAD + "\n", 1, 0)
        self.fault(HEAD + "next 2 0\n\n", 2, 0)

    def test_blanks_alone(self):
        for text in (" ", "  ", " \n", "\t", "\r\n"):
            self.fault(text, 0, 0)

    def test_no_row(self):
        self.fault("house 3 2 1\n", 1, 0)
        self.fault("house 3 2 1", 1, 0)

    def test_no_line_feed_behind_the_last_text_line(self):
        for rows in range(1, 7):
            self.fault(HEAD + "wait 0 0\n" * (rows - 1) + "wait 0 0", rows + 1, 0)

    def test_other_ends_of_lines(self):
        self.fault(TEXT.replace("\n", "\r\n"), 0, 3)
        self.fault(TEXT.replace("\n", "\r"), 0, 3)
        for sign in "\x0b\x0c\x1c\x1d\x1e\x85\u2028\u2029":
            self.fault(TEXT.replace("\n", sign), 0, 3)
            self.fault("house 3 2 1\nnamed 0 0" + sign, 1, 2)

    def test_cut_texts(self):
        for text in (TEXT, table_text((4, 6, 2), SIX)):
            for at in range(len(text)):
                with self.assertRaises(BadText):
                    read_table(text[:at])
                self.as_told(text[:at])
        self.fault("hou", 0, 0)
        self.fault("house", 0, 1)
        self.fault("house ", 0, 1)
        self.fault("house 3", 0, 2)
        self.fault("house 3 2", 0, 3)
        self.fault(HEAD + "nam", 1, 0)
        self.fault(HEAD + "named", 1, 1)
        self.fault(HEAD + "named 0", 1, 2)


class Several(Texts):
    def test_the_first_one_is_told(self):
        self.fault("hose 9 9 9\nx\n", 0, 0)
        self.fault("house 9 9 9\nx\n", 0, 1)
        self.fault("house 3 9 9\nx\n", 0, 2)
        self.fault("house 3 2 9\nx\n", 0, 3)
        self.fault("house 3 2 1 9\nx\n", 0, 4)
        self.fault(HEAD + "x 9 9\ny\n", 1, 0)
        self.fault(HEAD + "next 9 9\ny\n", 1, 1)
        self.fault(HEAD + "next 0 9\ny\n", 1, 2)
        self.fault(HEAD + "next 0 0 9\ny\n", 1, 3)
        self.fault(HEAD + "next 5 5\ny\n", 2, 0)

    def test_one_sign_more_less_or_another(self):
        for text in (TEXT, "house 4 1 2\nwait 2 1\nnext 0 0\nnamed 1 2\n"):
            for at in range(len(text) + 1):
                for sign in " \n\t0123456789+-xh":
                    self.as_told(text[:at] + sign + text[at:])
                    self.as_told(text[:at] + sign + text[at + 1:])
                self.as_told(text[:at] + text[at + 1:])
                self.as_told(text[:at] + text[at + 2:])

    def test_small_texts_of_some_words(self):
        lines = ["house 3 2 1", "house 4 2 3", "next 0 0", "next 1 0", "next 0 2", "wait 6 1", "", "next 0", "next 0 0 "]
        for many in range(5):
            for chosen in itertools.product(lines, repeat=many):
                self.as_told("\n".join(chosen))
                self.as_told("".join([line + "\n" for line in chosen]))

    def test_long_texts(self):
        self.fault("house " * 20000, 0, 1)
        self.fault("\n" * 20000, 0, 0)
        self.fault(HEAD + "wait 0 0\n" * 20000, 7, 0)
        self.fault("x" * 200000, 0, 0)
        self.fault("house " + "3" * 100000 + " 2 1\n", 0, 1)

    def test_asked_again(self):
        for _ in range(2):
            self.fault("house 3 2 1\nnext 0 1\n", 1, 2)
            self.assertTrue(same(read_table(TEXT), (H, T)))


if __name__ == "__main__":
    unittest.main()
