"""Values and small helpers that several tests share."""

import itertools

BIG = 10 ** 599
H = (3, 2, 1)
T = (("named", 0, 1), ("next", 0, 0))
NEW = (0, 0, -1)
TABLES = [
    T,
    (("named", 0, 0),),
    (("next", 0, 0),),
    (("wait", 1, 0), ("named", 0, 2), ("next", 2, 0)),
    (("next", 1, 2), ("wait", 2, 2), ("named", 1, 0)),
]
WAITS = [
    (("wait", 0, 0),),
    (("wait", 1, 0), ("wait", 1, 1)),
    (("wait", 1, 3), ("wait", 2, 0), ("wait", 0, 1), ("wait", 3, 3)),
]

# Every house, by the words of the document.
HOUSES = [
    (servers, rest, lag)
    for servers in (2, 3, 4) for rest in (1, 2, 3, 4, 5, 6) for lag in (0, 1, 2, 3)
    if servers ** (lag + 1) <= 81
]


def nested(levels):
    """Tuples and lists in turn, nested so many levels deep."""
    value = 0
    for level in range(levels):
        value = (value,) if level % 2 else [value]
    return value


ODD = [
    None, True, False, 0, 1, -1, BIG, -BIG, "", "house", "named", "3 2 1", (), [], ((),), [[]],
    (None,), (True,), ("",), (None, None, None), (True, True, True), ("3", "2", "1"), "321",
    nested(12), tuple(range(30000)), (0,) * 29999, ((),) * 29999, [0] * 29999,
]


def same(one, other):
    """Whether two values are alike at every depth, kinds of values included."""
    if type(one) is not type(other):
        return False
    if isinstance(one, (tuple, list)):
        return len(one) == len(other) and all(same(a, b) for a, b in zip(one, other))
    return one == other


def with_each_replaced(value, replace):
    """Copies of the nested tuples, each with one part, at any depth, replaced where it can be."""
    new = replace(value)
    if new is not None:
        yield new
    if isinstance(value, tuple):
        for at, item in enumerate(value):
            for other in with_each_replaced(item, replace):
                yield value[:at] + (other,) + value[at + 1:]


def as_truth(part):
    """True in the place of 1, False in that of 0."""
    return bool(part) if type(part) is int and part in (0, 1) else None


def as_list(part):
    """A list in the place of a tuple."""
    return list(part) if isinstance(part, tuple) else None


def as_text(part):
    """The digits in the place of an integer."""
    return str(part) if type(part) is int else None


def replaced(value):
    """Copies of a right value, each spoilt in one place."""
    for replace in (as_truth, as_list, as_text):
        yield from with_each_replaced(value, replace)


def told_course(house, heads):
    """Whether the heads are a course, by the words of the document."""
    changes = [m for m in range(1, len(heads)) if heads[m] != heads[m - 1]]
    return all(changes[k] - changes[k - 1] >= house[1] for k in range(1, len(changes)))


def courses(house, many):
    """Every course of so many heads."""
    for heads in itertools.product(range(house[0]), repeat=many):
        if told_course(house, heads):
            yield heads


def small_tables(rows):
    """Every table of so many rows."""
    numbers = range(rows)
    every = list(itertools.product(("named", "next", "wait"), numbers, numbers))
    return list(itertools.product(every, repeat=rows))


def told_names(house, course, moment, server):
    """Whom the server may name, moment by moment as the document says it; () if it serves."""
    if course[moment] == server:
        return ()
    lag = house[2]
    told = set()
    for known in range(moment - lag, moment + 1):
        if server not in course[known:moment + 1]:
            told.add(course[known])
    return tuple(sorted(told))


def told_standing(house, course, moment, asker):
    """The standing at a moment of a course, as the document says it."""
    _, rest, lag = house
    heads = tuple(course[moment - ago] for ago in range(lag + 1))
    changes = [m for m in range(1, moment + 1) if course[m] != course[m - 1]]
    hold = rest - 1 - (moment - changes[-1]) if changes else 0
    return (heads, max(hold, 0), asker)


def told_asks(house, row, asker):
    """The server that the deed of the row asks, or None."""
    _, named, asked = asker
    if row[0] == "next":
        return asked + 1 if asked + 1 < house[0] else 0
    return named if row[0] == "named" else None


def told_behind(house, table, course, moment, asker):
    """The askers behind the deed at a moment of a course, as the document says it."""
    number, named, asked = asker
    row = table[number]
    server = told_asks(house, row, asker)
    if server is None:
        return [(row[1], named, asked)]
    told = told_names(house, course, moment, server)
    return [(row[2] if name == asked else row[1], name, server) for name in told]


def told_turns(house, heads, hold):
    """The pairs of heads and hold at the next moment."""
    if hold > 0:
        return [((heads[0],) + heads[:-1], hold - 1)]
    return [((head,) + heads[:-1], house[1] - 1 if head != heads[0] else 0) for head in range(house[0])]


def told_answers(house, table, course, moment, asker):
    """Each pair that may be told then, with the asker behind it: None if it is served."""
    server = told_asks(house, table[asker[0]], asker)
    if server == course[moment]:
        return [((server, -1), None)]
    behind = told_behind(house, table, course, moment, asker)
    if server is None:
        return [((-1, -1), new) for new in behind]
    return [((server, new[1]), new) for new in behind]


def told_plays(house, table, course):
    """All that may be told in a course until it is served or ends, with the asker behind it."""
    done = []
    plays = [((), NEW)]
    for moment in range(house[2], len(course)):
        plays = [(pairs + (pair,), new) for pairs, asker in plays
                 for pair, new in told_answers(house, table, course, moment, asker)]
        done += [play for play in plays if play[1] is None]
        plays = [play for play in plays if play[1] is not None]
    return done + plays


def told_stories(house, table, many):
    """Every story of just so many moments, with the asker behind it."""
    for course in courses(house, house[2] + many):
        for pairs, asker in told_plays(house, table, course):
            if len(pairs) == many:
                yield (course, pairs), asker


def told_askers(house, table, story):
    """The asker at each moment of a story and behind it; None where it goes another way."""
    course, pairs = story
    askers = [NEW]
    for moment, pair in enumerate(pairs, house[2]):
        if askers[-1] is None:
            return None
        found = dict(told_answers(house, table, course, moment, askers[-1]))
        if pair not in found:
            return None
        askers.append(found[pair])
    return askers


def told_story(house, table, story):
    """Whether a course and pairs of integers are a story, as the document says it."""
    course, pairs = story
    if not told_course(house, course) or not 0 < len(pairs) == len(course) - house[2]:
        return False
    return told_askers(house, table, story) is not None


def told_ring(house, table, value):
    """Whether course, pairs and begin are a ring, as the document says it."""
    course, pairs, begin = value
    servers, _, lag = house
    if not told_story(house, table, (course, pairs)) or not lag <= begin < len(course):
        return False
    askers = told_askers(house, table, (course, pairs))
    if askers[-1] is None:
        return False
    again = told_standing(house, course, begin, askers[begin - lag])
    behind = [course + (head,) for head in range(servers) if told_course(house, course + (head,))]
    return again in [told_standing(house, later, len(course), askers[-1]) for later in behind]


def told_graph(house, table):
    """For each standing that can be come to the set of those it leads to."""
    lag = house[2]
    ready = [told_standing(house, course, lag, NEW) for course in courses(house, lag + 1)]
    graph = {}
    while ready:
        standing = ready.pop()
        if standing not in graph:
            heads, hold, asker = standing
            behind = told_behind(house, table, heads[::-1], lag, asker)
            turns = told_turns(house, heads, hold)
            graph[standing] = {(row, stays, new) for row, stays in turns for new in behind}
            ready += graph[standing]
    return graph


def told_left(graph, cost):
    """The greatest sum of costs from each standing on until it is served; None where that may never be."""
    left = {}
    many = -1
    # A standing is told once all that it leads to are; what is never told may go on for ever.
    while many < len(left):
        many = len(left)
        for standing, later in graph.items():
            if standing not in left and all(one in left for one in later):
                left[standing] = cost(standing) + max([left[one] for one in later], default=0)
    return left if len(left) == len(graph) else None


def fitting(houses, tables):
    """The pairs of a house and a table that are asked of together."""
    for house, table in itertools.product(houses, tables):
        if house[0] ** (house[2] + 1) * len(table) <= 200:
            yield house, table


def way_answers(house, course, moment, row):
    """Each pair that a row of a way may bring forth, with the row behind it; nothing if it is served."""
    deed, nexts = row
    if deed == -1:
        return [((-1, -1), nexts[0])]
    return [((deed, name), nexts[name]) for name in told_names(house, course, moment, deed)]


def unserved(house, way, moments):
    """Every course and pairs of so many moments, or up to where the way ends, that are never served."""
    lag = house[2]
    for course in courses(house, lag + moments):
        plays = [((), 0)]
        for moment in range(lag, lag + moments):
            plays = [(pairs + (pair,), later) for pairs, row in plays
                     for pair, later in way_answers(house, course, moment, way[row])]
            for pairs, _ in [play for play in plays if play[1] == -1 or moment == lag + moments - 1]:
                yield (course[:moment + 1], pairs)
            plays = [play for play in plays if play[1] != -1]


def small_ways(house, rows):
    """Every way of so many rows."""
    places = []
    for row in range(rows):
        later = [-1] + list(range(row + 1, rows))
        fitted = [(-1, (number,)) for number in later]
        for server in range(house[0]):
            numbers = [[-1] if named == server else later for named in range(house[0])]
            fitted += [(server, nexts) for nexts in itertools.product(*numbers)]
        places.append(fitted)
    return itertools.product(*places)
