"""Stories: how it goes for who asks by a table, and how long that takes at most."""

from sentnext.houses import heads_back, is_course, named_by
from sentnext.kinds import tuple_of, whole
from sentnext.standings import NEW_ASKER, firsts, goes_to
from sentnext.tables import asks, behind

NONE_ASKED = (-1, -1)


def tellings(heads, server):
    """The pairs (server, name) that may be told where these headed; () if the server serves."""
    if server is None:
        return (NONE_ASKED,)
    return tuple((server, name) for name in named_by(heads, server))


def is_served(pair):
    """Whether a pair of a story tells that the server serves."""
    server, name = pair
    return server != -1 and name == -1


def is_telling(house, value):
    """Whether value is a pair, each of a server or -1."""
    return tuple_of(value, 2) and all([whole(part, -1, house[0] - 1) for part in value])


def is_play(house, table, course, told):
    """Whether these are the pairs that the table may bring forth in the course."""
    lag = house[2]
    asker = NEW_ASKER
    for moment, pair in enumerate(told, start=lag):
        if not is_telling(house, pair):
            return False
        server = asks(house, table, asker)
        if server == course[moment]:
            return pair == (server, -1) and moment == len(course) - 1
        if pair not in tellings(heads_back(house, course, moment), server):
            return False
        asker = behind(house, table, asker, pair[1])
    return True


def is_story(house, table, value):
    """Whether value is a story of the house and the table."""
    if not tuple_of(value, 2):
        return False
    course, told = value
    if not is_course(house, course) or not isinstance(told, tuple):
        return False
    if len(told) == 0 or len(told) != len(course) - house[2]:
        return False
    return is_play(house, table, course, told)


def leads_of(house, table):
    """For each standing that can be come to, the standings that it leads to."""
    leads = {}
    ready = list(firsts(house))
    while len(ready) > 0:
        standing = ready.pop()
        if standing not in leads:
            leads[standing] = goes_to(house, table, standing)
            ready.extend(leads[standing])
    return leads


def ways_back(leads):
    """For each standing the list of those that lead to it."""
    back = {standing: [] for standing in leads}
    for standing, later in leads.items():
        for one in later:
            back[one].append(standing)
    return back


def served_order(leads):
    """The standings from which it is surely served, each behind all that it leads to."""
    back = ways_back(leads)
    missing = {standing: len(later) for standing, later in leads.items()}
    ready = [standing for standing in leads if missing[standing] == 0]
    order = []
    while len(ready) > 0:
        standing = ready.pop()
        order.append(standing)
        for one in back[standing]:
            missing[one] -= 1
            if missing[one] == 0:
                ready.append(one)
    return order


def greatest_costs(leads, costs):
    """For each standing from which it is surely served, the greatest sum of costs until then."""
    left = {}
    for standing in served_order(leads):
        left[standing] = costs[standing] + max([left[one] for one in leads[standing]], default=0)
    return left


def moments_left(leads):
    """For each standing from which it is surely served, the greatest number of moments until then."""
    return greatest_costs(leads, {standing: 1 for standing in leads})


def greatest_at_first(house, left):
    """The greatest number of a first standing; None if one of them has none."""
    begun = firsts(house)
    if not all([standing in left for standing in begun]):
        return None
    return max([left[standing] for standing in begun])


def latest(house, table):
    """At most how many moments it takes until it is served; None if that may never be."""
    return greatest_at_first(house, moments_left(leads_of(house, table)))


def most(house, table):
    """At most how many asks it takes until it is served; None if that may never be."""
    leads = leads_of(house, table)
    costs = {standing: 0 if asks(house, table, standing[2]) is None else 1 for standing in leads}
    return greatest_at_first(house, greatest_costs(leads, costs))


def course_of(walk):
    """The course of heads that a walk along standings shows."""
    return walk[0][0][::-1] + tuple(standing[0][0] for standing in walk[1:])


def pairs_of(house, table, walk):
    """The pairs that are told along a walk, but for its last standing."""
    pairs = []
    for standing, later in zip(walk, walk[1:]):
        server = asks(house, table, standing[2])
        # Whom the server named stands in the asker that the answer leads to.
        pairs.append(NONE_ASKED if server is None else (server, later[2][1]))
    return tuple(pairs)


def longest_walk(house, leads, left):
    """The standings from a first one to being served, as many as can be."""
    walk = [max(firsts(house), key=lambda standing: left[standing])]
    while len(leads[walk[-1]]) > 0:
        walk.append(max(leads[walk[-1]], key=lambda standing: left[standing]))
    return walk


def latest_story(house, table):
    """A story that is served as late as can be; None if that may never be."""
    leads = leads_of(house, table)
    left = moments_left(leads)
    if len(left) < len(leads):
        return None
    walk = longest_walk(house, leads, left)
    serves = asks(house, table, walk[-1][2])
    return (course_of(walk), pairs_of(house, table, walk) + ((serves, -1),))
