"""Checks of what a caller brings: rings, ledgers, and ways of asking."""

from sentnext.errors import NoLedger, NoRing, NotSure
from sentnext.houses import heads_back, is_course
from sentnext.kinds import tuple_of, whole
from sentnext.standings import NEW_ASKER, firsts, goes_to, hold_of, turns
from sentnext.stories import is_served, is_story, tellings
from sentnext.tables import behind


def is_integer(value):
    """Whether value is an integer, of any size."""
    return isinstance(value, int) and not isinstance(value, bool)


def has_ring_shape(house, value):
    """Whether value is a triple of a course that goes far enough, a tuple and an integer."""
    if not tuple_of(value, 3):
        return False
    course, told, begin = value
    if not is_course(house, course) or len(course) <= house[2]:
        return False
    return isinstance(told, tuple) and is_integer(begin)


def turn_at(house, course, moment):
    """The pair of heads and hold at a moment of the course."""
    return (heads_back(house, course, moment), hold_of(house, course[:moment + 1]))


def comes_round(house, table, value):
    """Whether the last moment of a story can lead to the standing at the moment begin."""
    course, told, begin = value
    askers = [NEW_ASKER]
    for _, name in told:
        askers.append(behind(house, table, askers[-1], name))
    if askers[begin - house[2]] != askers[-1]:
        return False
    heads, hold = turn_at(house, course, len(course) - 1)
    return turn_at(house, course, begin) in turns(house, heads, hold)


def is_ring(house, table, value):
    """True if value is a ring, otherwise NoRing is raised."""
    if not has_ring_shape(house, value):
        raise NoRing("shape")
    course, told, begin = value
    if not is_story(house, table, (course, told)) or is_served(told[-1]):
        raise NoRing("story")
    if not house[2] <= begin < len(course):
        raise NoRing("begin")
    if not comes_round(house, table, value):
        raise NoRing("round")
    return True


def is_asker(house, table, value):
    """Whether value is a triple of a row of the table, a server, and a server or -1."""
    if not tuple_of(value, 3):
        return False
    row, named, asked = value
    top = house[0] - 1
    return whole(row, 0, len(table) - 1) and whole(named, 0, top) and whole(asked, -1, top)


def is_standing(house, table, value):
    """Whether value has the shape of a standing."""
    if not tuple_of(value, 3):
        return False
    heads, hold, asker = value
    servers, rest, lag = house
    if not tuple_of(heads, lag + 1) or not all([whole(head, 0, servers - 1) for head in heads]):
        return False
    return whole(hold, 0, rest - 1) and is_asker(house, table, asker)


def is_entry(house, table, value):
    """Whether value is a pair of a standing and an integer from 1 on."""
    if not tuple_of(value, 2):
        return False
    standing, number = value
    return is_standing(house, table, standing) and is_integer(number) and number >= 1


def check_entries(house, table, value):
    """NoLedger is raised at the first item that is no pair as it must be, or not above the one ahead."""
    for at, entry in enumerate(value):
        if not is_entry(house, table, entry):
            raise NoLedger("pair", at)
        if at > 0 and entry[0] <= value[at - 1][0]:
            raise NoLedger("pair", at)


def check_falls(house, table, value, numbers):
    """NoLedger is raised at the first item that leads out of the ledger, or to no lesser number."""
    for at, (standing, number) in enumerate(value):
        later = goes_to(house, table, standing)
        if not all([one in numbers for one in later]):
            raise NoLedger("open", at)
        if not all([numbers[one] < number for one in later]):
            raise NoLedger("falls", at)


def is_ledger(house, table, value):
    """True if value is a ledger, otherwise NoLedger is raised."""
    if not isinstance(value, tuple):
        raise NoLedger("shape", -1)
    check_entries(house, table, value)
    numbers = {standing: number for standing, number in value}
    check_falls(house, table, value, numbers)
    if not all([standing in numbers for standing in firsts(house)]):
        raise NoLedger("first", -1)
    return True


def steps_of(row, heads):
    """For each pair that a row of a way may tell, not being served, the row behind it or -1."""
    deed, nexts = row
    if deed == -1:
        return [(pair, nexts[0]) for pair in tellings(heads, None)]
    return [(pair, nexts[pair[1]]) for pair in tellings(heads, deed)]


def keep_longer(plays, turn, play):
    """Keeps the play for this turn, unless one with as many pairs is there."""
    if turn not in plays or len(plays[turn][1]) < len(play[1]):
        plays[turn] = play


def is_sure(house, way, moments):
    """True if the way is sure in so many moments, otherwise NotSure is raised."""
    # For each row, the longest play that comes to it for each pair of heads and hold. The numbers
    # of rows only rise, so no longer one is found once a row's turn has come.
    plays = [{} for _ in way]
    for heads, hold, _ in firsts(house):
        plays[0][(heads, hold)] = (heads[::-1], ())
    for number, row in enumerate(way):
        for (heads, hold), (course, told) in list(plays[number].items()):
            for pair, later in steps_of(row, heads):
                longer = told + (pair,)
                if later == -1 or len(longer) >= moments:
                    raise NotSure(course, longer)
                for turn in turns(house, heads, hold):
                    keep_longer(plays[later], turn, (course + (turn[0][0],), longer))
    return True
