"""Values and small helpers that several tests share."""

import itertools

BIG = 10 ** 599
H = (3, 2, 1)
T = (("named", 0, 1), ("next", 0, 0))

# Every house, by the words of the document.
HOUSES = [
    (servers, rest, lag)
    for servers in (2, 3, 4) for rest in (1, 2, 3, 4, 5, 6) for lag in (0, 1, 2, 3)
    if servers ** (lag + 1) <= 81
]


def nested(levels):
    """Tuples and lists in turn, nested so many levels deep."""
    value = 0
    for level in range(levels):
        value = (value,) if level % 2 else [value]
    return value


ODD = [
    None, True, False, 0, 1, -1, BIG, -BIG, "", "house", "named", "3 2 1", (), [], ((),), [[]],
    (None,), (True,), ("",), (None, None, None), (True, True, True), ("3", "2", "1"), "321",
    nested(12), tuple(range(30000)), (0,) * 29999, ((),) * 29999, [0] * 29999,
]


def same(one, other):
    """Whether two values are alike at every depth, kinds of values included."""
    if type(one) is not type(other):
        return False
    if isinstance(one, (tuple, list)):
        return len(one) == len(other) and all(same(a, b) for a, b in zip(one, other))
    return one == other


def with_each_replaced(value, replace):
    """Copies of the nested tuples, each with one part, at any depth, replaced where it can be."""
    new = replace(value)
    if new is not None:
        yield new
    if isinstance(value, tuple):
        for at, item in enumerate(value):
            for other in with_each_replaced(item, replace):
                yield value[:at] + (other,) + value[at + 1:]


def as_truth(part):
    """True in the place of 1, False in that of 0."""
    return bool(part) if type(part) is int and part in (0, 1) else None


def as_list(part):
    """A list in the place of a tuple."""
    return list(part) if isinstance(part, tuple) else None


def as_text(part):
    """The digits in the place of an integer."""
    return str(part) if type(part) is int else None


def replaced(value):
    """Copies of a right value, each spoilt in one place."""
    for replace in (as_truth, as_list, as_text):
        yield from with_each_replaced(value, replace)


def courses(house, many):
    """Every course of so many heads, told apart by the words of the document."""
    servers, rest, _ = house
    for heads in itertools.product(range(servers), repeat=many):
        changes = [m for m in range(1, many) if heads[m] != heads[m - 1]]
        if all(changes[k] - changes[k - 1] >= rest for k in range(1, len(changes))):
            yield heads


def told_names(house, course, moment, server):
    """Whom the server may name, moment by moment as the document says it; () if it serves."""
    if course[moment] == server:
        return ()
    lag = house[2]
    told = set()
    for known in range(moment - lag, moment + 1):
        if server not in course[known:moment + 1]:
            told.add(course[known])
    return tuple(sorted(told))


def told_standing(house, course, moment, asker):
    """The standing at a moment of a course, as the document says it."""
    _, rest, lag = house
    heads = tuple(course[moment - ago] for ago in range(lag + 1))
    changes = [m for m in range(1, moment + 1) if course[m] != course[m - 1]]
    hold = rest - 1 - (moment - changes[-1]) if changes else 0
    return (heads, max(hold, 0), asker)
