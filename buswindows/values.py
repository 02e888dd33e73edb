"""What the other modules ask of plain values."""


def is_within(value, low, high):
    """Return whether value is an integer, so no bool, from low to high."""
    return isinstance(value, int) and not isinstance(value, bool) and low <= value <= high
