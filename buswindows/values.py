"""What the other modules ask of plain values."""


def is_integer(value):
    """Return whether value is an integer, so no bool."""
    return isinstance(value, int) and not isinstance(value, bool)


def is_within(value, low, high):
    """Return whether value is an integer from low to high."""
    return is_integer(value) and low <= value <= high


def is_tuple_of(value, many):
    """Return whether value is a tuple of this number of items."""
    return isinstance(value, tuple) and len(value) == many
