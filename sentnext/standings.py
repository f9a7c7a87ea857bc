"""Standings: the heads as far as they matter, and the asker."""

from sentnext.houses import changes_of, heads_back, is_course, named_by
from sentnext.tables import asks, behind

NEW_ASKER = (0, 0, -1)


def hold_of(house, course):
    """For how many moments behind the last one of the course its head must stay."""
    changes = changes_of(course)
    if len(changes) == 0:
        return 0
    ago = len(course) - 1 - changes[-1]
    return max(0, house[1] - 1 - ago)


def beginnings(house):
    """The courses of the house that end with the moment lag."""
    servers, _, lag = house
    rows = [()]
    for _ in range(lag + 1):
        rows = [row + (head,) for row in rows for head in range(servers)]
    return [row for row in rows if is_course(house, row)]


def firsts(house):
    """The standings at the moment lag, over all courses."""
    lag = house[2]
    return tuple(sorted([
        (heads_back(house, course, lag), hold_of(house, course), NEW_ASKER)
        for course in beginnings(house)
    ]))


def may_name(house, standing, server):
    """The servers that the server may name at the standing; () if it serves."""
    return named_by(standing[0], server)


def turns(house, heads, hold):
    """The pairs of heads and hold to which the course can go on."""
    servers, rest, _ = house
    older = heads[:-1]
    if hold > 0:
        return (((heads[0],) + older, hold - 1),)
    return tuple(((head,) + older, 0 if head == heads[0] else rest - 1) for head in range(servers))


def answered(house, table, standing):
    """The askers to which the deed can lead; () if it is served."""
    asker = standing[2]
    server = asks(house, table, asker)
    if server is None:
        # Behind a wait the name does not matter; any server will do.
        return (behind(house, table, asker, 0),)
    return tuple(behind(house, table, asker, name) for name in may_name(house, standing, server))


def goes_to(house, table, standing):
    """The standings at the next moment to which the deed can lead, not being served."""
    heads, hold, _ = standing
    askers = answered(house, table, standing)
    # No two turns have the same heads and no two askers the same name, so each comes once.
    return tuple(sorted([
        (row, stays, asker) for row, stays in turns(house, heads, hold) for asker in askers
    ]))
