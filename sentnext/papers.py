"""Papers that show how it goes in the end: a ring, or a ledger."""

from sentnext.standings import firsts
from sentnext.stories import course_of, leads_of, moments_left, pairs_of


def walk_round(leads, left, standing):
    """The standings from this one on, never served, until the last one stands there twice."""
    walk = [standing]
    seen = {}
    while walk[-1] not in seen:
        seen[walk[-1]] = True
        # From where it may never be served, some way leads to another such standing.
        walk.append([one for one in leads[walk[-1]] if one not in left][0])
    return walk


def ring(house, table):
    """A ring, or None if there is none."""
    leads = leads_of(house, table)
    left = moments_left(leads)
    begun = [standing for standing in firsts(house) if standing not in left]
    if len(begun) == 0:
        return None
    walk = walk_round(leads, left, begun[0])
    begin = house[2] + walk.index(walk[-1])
    return (course_of(walk[:-1]), pairs_of(house, table, walk), begin)


def ledger(house, table):
    """For each standing the greatest number of moments until it is served; None if there is a ring."""
    leads = leads_of(house, table)
    left = moments_left(leads)
    if len(left) < len(leads):
        return None
    return tuple(sorted(left.items()))
