"""Any way of asking: what one is, and how soon one can surely be served."""

from sentnext.houses import named_by
from sentnext.kinds import tuple_of, whole
from sentnext.standings import firsts, turns

WAIT = -1
MOST_WAY_ROWS = 200
MOST_MOMENTS = 6


def is_row_behind(value, number, rows):
    """Whether value is the number of a row behind this one, or -1."""
    return whole(value, number + 1, rows - 1) or whole(value, -1, -1)


def is_way_row(house, value, number, rows):
    """Whether value is the row of this number of a way that has so many rows."""
    if not tuple_of(value, 2):
        return False
    deed, nexts = value
    servers = house[0]
    if not whole(deed, WAIT, servers - 1) or not tuple_of(nexts, 1 if deed == WAIT else servers):
        return False
    if deed != WAIT and nexts[deed] != -1:
        return False
    return all([is_row_behind(one, number, rows) for one in nexts])


def is_way(house, value):
    """Whether value is a way of asking."""
    if not isinstance(value, tuple) or not 1 <= len(value) <= MOST_WAY_ROWS:
        return False
    return all([is_way_row(house, row, number, len(value)) for number, row in enumerate(value)])


def known_at_first(house):
    """The pairs of heads and hold that there may be at the moment lag."""
    return tuple((heads, hold) for heads, hold, _ in firsts(house))


def known_later(house, known):
    """The pairs of heads and hold that there may be a moment behind these."""
    return tuple(sorted(set([turn for heads, hold in known for turn in turns(house, heads, hold)])))


def branches(house, known, deed):
    """For each answer to the deed its place in the nexts of a row, and what is known behind it."""
    if deed == WAIT:
        return [(0, known_later(house, known))]
    found = []
    for name in range(house[0]):
        fitting = [(heads, hold) for heads, hold in known if name in named_by(heads, deed)]
        if len(fitting) > 0:
            found.append((name, known_later(house, fitting)))
    return found


def serves_behind(house, known, deed, moments, deeds):
    """Whether it can surely be served in so many moments, the deed being the first."""
    for _, later in branches(house, known, deed):
        if best_deed(house, later, moments - 1, deeds) is None:
            return False
    return True


def best_deed(house, known, moments, deeds):
    """A deed to be surely served in so many moments, or None; deeds keeps what was found."""
    if moments == 0:
        return None
    key = (known, moments)
    if key not in deeds:
        deeds[key] = None
        for deed in range(WAIT, house[0]):
            if serves_behind(house, known, deed, moments, deeds):
                deeds[key] = deed
                break
    return deeds[key]


def least_moments(house, deeds):
    """The least number of moments in which it can surely be served, or None."""
    for moments in range(1, MOST_MOMENTS + 1):
        if best_deed(house, known_at_first(house), moments, deeds) is not None:
            return moments
    return None


def soonest(house):
    """The least number of moments in which some way is sure, or None."""
    return least_moments(house, {})


def add_rows(house, known, moments, deeds, rows):
    """Puts the row for what is known, and those that follow from it, behind the rows; its number."""
    number = len(rows)
    deed = best_deed(house, known, moments, deeds)
    # The row has its place ahead of those that it leads to, whose numbers it must tell.
    rows.append(())
    nexts = [-1] * (1 if deed == WAIT else house[0])
    for place, later in branches(house, known, deed):
        nexts[place] = add_rows(house, later, moments - 1, deeds, rows)
    rows[number] = (deed, tuple(nexts))
    return number


def way(house):
    """A way that is sure as soon as can be, or None."""
    deeds = {}
    moments = least_moments(house, deeds)
    if moments is None:
        return None
    # For houses within the bounds these are 4 moments at most: far fewer rows than 200 will do.
    rows = []
    add_rows(house, known_at_first(house), moments, deeds, rows)
    return tuple(rows)
