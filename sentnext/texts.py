"""Texts of a house and a table."""

from sentnext.errors import BadText
from sentnext.houses import is_house
from sentnext.tables import MOST_ROWS

# For each place of a text line the words that may stand there.
HOUSE_WORDS = (("house",), ("2", "3", "4"), ("1", "2", "3", "4", "5", "6"), ("0", "1", "2", "3"))
ROW_WORDS = (("named", "next", "wait"), ("0", "1", "2", "3", "4", "5"), ("0", "1", "2", "3", "4", "5"))
LAG_PLACE = 3
ROW_PLACES = (1, 2)


def text_line(words):
    """The words as a text line."""
    return " ".join([str(word) for word in words]) + "\n"


def table_text(house, table):
    """The text of a house and a table."""
    return "".join([text_line(words) for words in (("house",) + house,) + table])


def wrong_word(words, places):
    """The first word that cannot stand in its place, is missing or too many; None if there is none."""
    for at, fitting in enumerate(places):
        if at == len(words) or words[at] not in fitting:
            return at
    return len(places) if len(words) > len(places) else None


def house_of(words):
    """The house that a right text line tells."""
    return tuple(int(word) for word in words[1:LAG_PLACE + 1])


def row_of(words):
    """The row that a right text line tells."""
    return (words[0], int(words[1]), int(words[2]))


def wrong_house_word(words):
    """As wrong_word, for the text line of a house."""
    at = wrong_word(words, HOUSE_WORDS)
    if (at is None or at > LAG_PLACE) and not is_house(house_of(words)):
        # Each number is within its own bounds, so the lag is too great for the servers.
        return LAG_PLACE
    return at


def wrong_word_of(number, words):
    """As wrong_word, for the text line of this number."""
    if number == 0:
        return wrong_house_word(words)
    if number > MOST_ROWS:
        return 0
    return wrong_word(words, ROW_WORDS)


def check_words(lines):
    """BadText is raised at the first word that cannot stand in its place."""
    for number, words in enumerate(lines):
        at = wrong_word_of(number, words)
        if at is not None:
            raise BadText(number, at)


def check_numbers(lines):
    """BadText is raised at the first row's number that is none of the table's."""
    rows = len(lines) - 1
    for number, words in enumerate(lines[1:], start=1):
        for at in ROW_PLACES:
            if int(words[at]) >= rows:
                raise BadText(number, at)


def read_table(text):
    """The house and the table with this text; BadText is raised if there are none."""
    *pieces, rest = text.split("\n")
    # What stands behind the last line feed is a text line only if it is not empty.
    lines = [piece.split(" ") for piece in (pieces if rest == "" else pieces + [rest])]
    check_words(lines)
    check_numbers(lines)
    if len(lines) < 2 or rest != "":
        raise BadText(len(lines), 0)
    return (house_of(lines[0]), tuple([row_of(words) for words in lines[1:]]))
