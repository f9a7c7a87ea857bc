"""Houses, courses of heads, and whom a server that is asked may name."""

from sentnext.kinds import tuple_of, whole

MOST_HEADS = 81


def rows_of_heads(servers, lag):
    """servers ** (lag + 1): how many rows of lag + 1 heads there are."""
    many = 1
    for _ in range(lag + 1):
        many = many * servers
    return many


def is_house(value):
    """Whether value is a triple (servers, rest, lag) within the bounds."""
    if not tuple_of(value, 3):
        return False
    servers, rest, lag = value
    if not whole(servers, 2, 4) or not whole(rest, 1, 6) or not whole(lag, 0, 3):
        return False
    return rows_of_heads(servers, lag) <= MOST_HEADS


def changes_of(course):
    """The moments at which the head changes."""
    return tuple(moment for moment in range(1, len(course)) if course[moment] != course[moment - 1])


def is_course(house, value):
    """Whether value is a course of heads of the house."""
    servers, rest, _ = house
    if not isinstance(value, tuple) or len(value) == 0:
        return False
    if not all([whole(head, 0, servers - 1) for head in value]):
        return False
    changes = changes_of(value)
    return all([late - soon >= rest for soon, late in zip(changes, changes[1:])])


def heads_back(house, course, moment):
    """The heads of this moment, of the one ahead, and so on back by the lag."""
    lag = house[2]
    return tuple(course[moment - ago] for ago in range(lag + 1))


def named_by(heads, server):
    """The servers that a server may name, where these headed, the newest one first."""
    named = []
    for head in heads:
        # It knows of its own heading at once, so it names no moment from there back.
        if head == server:
            break
        named.append(head)
    return tuple(sorted(set(named)))


def names(house, course, moment, server):
    """The servers that the server may name at the moment; () if it serves."""
    return named_by(heads_back(house, course, moment), server)
