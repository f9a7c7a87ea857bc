"""Tables, and what their deeds do."""

from sentnext.kinds import tuple_of, whole

DEEDS = ("named", "next", "wait")
MOST_ROWS = 6


def is_row(value, rows):
    """Whether value is a row of a table that has so many rows."""
    if not tuple_of(value, 3):
        return False
    deed, ahead, again = value
    return deed in DEEDS and whole(ahead, 0, rows - 1) and whole(again, 0, rows - 1)


def is_table(value):
    """Whether value is a table."""
    if not isinstance(value, tuple) or not 1 <= len(value) <= MOST_ROWS:
        return False
    return all([is_row(row, len(value)) for row in value])


def asks(house, table, asker):
    """The server that is asked, or None if none is."""
    row, named, asked = asker
    deed = table[row][0]
    if deed == "wait":
        return None
    if deed == "named":
        return named
    # Where none was asked yet, asked is -1, so the next one is 0.
    return (asked + 1) % house[0]


def behind(house, table, asker, name):
    """The asker behind the deed, if this server is named."""
    row, named, asked = asker
    _, ahead, again = table[row]
    server = asks(house, table, asker)
    if server is None:
        return (ahead, named, asked)
    if name == asked:
        return (again, name, server)
    return (ahead, name, server)
