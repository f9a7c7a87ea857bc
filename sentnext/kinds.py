"""Kinds of values that several modules ask for."""


def whole(value, low, high):
    """Whether value is an integer from low to high."""
    # True and False are ints to Python, but no integers here.
    if isinstance(value, bool) or not isinstance(value, int):
        return False
    return low <= value <= high


def tuple_of(value, many):
    """Whether value is a tuple of so many items."""
    return isinstance(value, tuple) and len(value) == many
