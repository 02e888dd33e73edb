"""Where the registers of devices and bridges have what: indexes and bits."""

IDENTITY = 0
SORT = 1
CLAIMS = 2

# Of a bridge: bits 8 to 15 of its numbers are the first one, bits 16 to 23 the last
# one, bits 0 to 7 the number of the segment on which it stands.
NUMBERS = 3
FIRST_SHIFT = 8
LAST_SHIFT = 16
NUMBER_BITS = 255

# Of a bridge: a window has its start and, in its lowest bits, the exponent of its
# size; the start has none of the low bits. The far one has a high register, too.
NEAR_WINDOW = 4
FAR_WINDOW = 6
EXPONENT_BITS = 63
WINDOW_LOW_BITS = 4095
LEAST_EXPONENT = 12

# Of a device: two registers for each area, the low one with these bits besides.
AREAS = 4
FAR_BIT = 1
AREA_BIT = 2
AREA_LOW_BITS = 15


def low_index(area):
    """Return the index of the low register of an area."""
    return AREAS + 2 * area


def high_index(area):
    """Return the index of the high register of an area."""
    return AREAS + 2 * area + 1
