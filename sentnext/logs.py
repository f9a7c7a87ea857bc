"""Logs of answers, and what they say of who heads."""

from sentnext.errors import NoCourse
from sentnext.houses import changes_of, heads_back, named_by
from sentnext.standings import beginnings, hold_of, turns
from sentnext.stories import NONE_ASKED, is_telling

MOST_PAIRS = 30
NOT_CHANGED = -1


def is_answer(house, value):
    """Whether value is a pair of two unlike servers, or the one that tells of no ask."""
    if not is_telling(house, value):
        return False
    server, name = value
    return value == NONE_ASKED or (server != -1 and name != -1 and server != name)


def is_log(house, value):
    """Whether value is a log of the house."""
    if not isinstance(value, tuple) or len(value) > MOST_PAIRS:
        return False
    return all([is_answer(house, pair) for pair in value])


def ago_of(course):
    """How many moments ago the head of a course changed last."""
    changes = changes_of(course)
    return NOT_CHANGED if len(changes) == 0 else len(course) - 1 - changes[-1]


def pasts_at_first(house):
    """The triples (heads, hold, ago) that there may be at the moment lag."""
    lag = house[2]
    return [
        (heads_back(house, course, lag), hold_of(house, course), ago_of(course))
        for course in beginnings(house)
    ]


def ago_later(ago, changes):
    """How many moments ago the head changed, a moment later, at which it changes or not."""
    if changes:
        return 0
    return NOT_CHANGED if ago == NOT_CHANGED else ago + 1


def pasts_later(house, pasts):
    """The triples that there may be a moment behind these."""
    return sorted(set([
        (row, stays, ago_later(ago, row[0] != heads[0]))
        for heads, hold, ago in pasts for row, stays in turns(house, heads, hold)
    ]))


def may_be_told(heads, pair):
    """Whether the pair may be told where these headed."""
    server, name = pair
    return pair == NONE_ASKED or name in named_by(heads, server)


def pasts_behind(house, log):
    """The triples that there may be behind the log; NoCourse is raised if there are none."""
    pasts = pasts_at_first(house)
    for number, pair in enumerate(log):
        fitting = [past for past in pasts if may_be_told(past[0], pair)]
        if len(fitting) == 0:
            raise NoCourse(number)
        pasts = pasts_later(house, fitting)
    return pasts


def may_head(house, log):
    """The servers that may head at the moment behind the log."""
    return tuple(sorted(set([heads[0] for heads, _, _ in pasts_behind(house, log)])))


def last_change(house, log):
    """The least and the greatest number of moments since the head changed, behind the log."""
    agos = [ago for _, _, ago in pasts_behind(house, log)]
    changed = [ago for ago in agos if ago != NOT_CHANGED]
    if len(changed) == 0:
        return (None, None)
    return (min(changed), max(changed) if len(changed) == len(agos) else None)
