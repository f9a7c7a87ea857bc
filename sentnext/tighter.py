"""What rarer changes and less lag bring, and which tables differ or do best."""

from sentnext.houses import is_house
from sentnext.standings import NEW_ASKER, firsts, turns
from sentnext.stories import latest, tellings
from sentnext.tables import DEEDS, asks, behind

RESTS = (1, 2, 3, 4, 5, 6)
LAGS_FROM_THE_TOP = (3, 2, 1, 0)


def is_served_in(house, table, moments):
    """Whether it is surely served in so many moments."""
    number = latest(house, table)
    return number is not None and number <= moments


def least_rest(house, table, moments):
    """The least rest with which it is surely served in so many moments, or None."""
    servers, _, lag = house
    for rest in RESTS:
        if is_served_in((servers, rest, lag), table, moments):
            return rest
    return None


def most_lag(house, table, moments):
    """The greatest lag with which it is surely served in so many moments, or None."""
    servers, rest, _ = house
    for lag in LAGS_FROM_THE_TOP:
        later = (servers, rest, lag)
        if is_house(later) and is_served_in(later, table, moments):
            return lag
    return None


def stairs(house, table):
    """The pairs (rest, latest) for each rest at which latest is less than at all lesser ones."""
    servers, _, lag = house
    steps = []
    for rest in RESTS:
        number = latest((servers, rest, lag), table)
        if number is not None and (len(steps) == 0 or number < steps[-1][1]):
            steps.append((rest, number))
    return tuple(steps)


def are_unlike(house, tables, askers):
    """Whether the two tables ask unlike servers, or just one of them waits."""
    first, second = [asks(house, table, asker) for table, asker in zip(tables, askers)]
    return first != second


def both_behind(house, tables, askers, name):
    """The askers of both tables behind the same deed, if this server is named."""
    return tuple([behind(house, table, asker, name) for table, asker in zip(tables, askers)])


def join_queue(queue, seen, state, play):
    """Puts a state, with the play that leads to it, into the queue, if it was not there yet."""
    if state not in seen:
        seen[state] = True
        queue.append((state, play))


def parted(house, table, other):
    """A shortest story of both tables behind which they do unlike things, () or None."""
    tables = (table, other)
    new = (NEW_ASKER, NEW_ASKER)
    if are_unlike(house, tables, new):
        return ()
    queue = []
    seen = {}
    for heads, hold, _ in firsts(house):
        join_queue(queue, seen, (heads, hold, new), (heads[::-1], ()))
    at = 0
    # The states are taken in the order of their moments, so the first story found is a shortest.
    while at < len(queue):
        (heads, hold, askers), (course, told) = queue[at]
        at += 1
        for pair in tellings(heads, asks(house, table, askers[0])):
            later = both_behind(house, tables, askers, pair[1])
            if are_unlike(house, tables, later):
                return (course, told + (pair,))
            for row, stays in turns(house, heads, hold):
                join_queue(queue, seen, (row, stays, later), (course + (row[0],), told + (pair,)))
    return None


def tables_of(rows):
    """All tables with one row or two."""
    every = [(deed, ahead, again) for deed in DEEDS for ahead in range(rows) for again in range(rows)]
    if rows == 1:
        return [(row,) for row in every]
    return [(row, second) for row in every for second in every]


def best_table(house):
    """The table of one or two rows with the least latest, the first of several; None if none has one."""
    best = None
    least = None
    for table in sorted(tables_of(1) + tables_of(2)):
        number = latest(house, table)
        if number is not None and (least is None or number < least):
            best = table
            least = number
    return best
