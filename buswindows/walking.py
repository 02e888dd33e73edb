"""Walking: finding devices and bridges by reading and writing registers."""

from buswindows.bounds import MAX_AREAS, MAX_PARTS, NEAR, ONES
from buswindows.layout import (
    AREA_BIT, AREA_LOW_BITS, CLAIMS, FAR_BIT, FIRST_SHIFT, IDENTITY, LAST_SHIFT, NUMBER_BITS, NUMBERS, SORT,
    high_index, low_index,
)

# The bits of a bridge's numbers that the walk leaves as they were.
KEPT_BITS = 255 << 24


def walk(read, write):
    """Find all devices and bridges, give the bridges their numbers, and return a row for each."""
    rows, _ = _walk_segment(read, write, 0, ())
    return tuple(rows)


def _walk_segment(read, write, bus, path):
    """Return the rows of all parts on and below a segment, and the greatest number given behind them.

    bus is the number of the segment and the greatest one given before; the bridges
    above pass all numbers from it on.
    """
    rows = []
    last = bus
    for slot, identity, is_bridge in _found(read, bus):
        at = path + (slot,)
        if is_bridge:
            # What a bridge held before its turn does no harm: the bridges in the slots before pass
            # none of the numbers that are in use now, and it is asked behind the one whose turn it is.
            first = last + 1
            # How many numbers there are going to be below is not known yet.
            _set_numbers(read, write, bus, slot, first, NUMBER_BITS)
            below, last = _walk_segment(read, write, first, at)
            _set_numbers(read, write, bus, slot, first, last)
            rows.append(("bridge", at, identity, first, last))
            rows.extend(below)
        else:
            rows.append(("device", at, identity, _areas(read, write, bus, slot)))
    return rows, last


def _found(read, bus):
    """Return (slot, identity, whether it is a bridge) for each part on a segment."""
    found = []
    for slot in range(MAX_PARTS):
        identity = read(bus, slot, IDENTITY)
        if identity != ONES:
            found.append((slot, identity, read(bus, slot, SORT) & 1 == 1))
    return found


def _set_numbers(read, write, bus, slot, first, last):
    """Write the numbers of a bridge; the bits beside them stay as they are."""
    kept = read(bus, slot, NUMBERS) & KEPT_BITS
    write(bus, slot, NUMBERS, kept + (last << LAST_SHIFT) + (first << FIRST_SHIFT) + bus)


def _areas(read, write, bus, slot):
    """Return (k, kind, size) for each area of a device, whose registers hold behind it what they held before."""
    claims = read(bus, slot, CLAIMS)
    # Sizes show only in what is kept of a start, and no start is written while the claims are on.
    write(bus, slot, CLAIMS, claims - (claims & 1))
    areas = []
    for area in range(MAX_AREAS):
        flags = read(bus, slot, low_index(area))
        if flags & AREA_BIT != 0:
            kind = "far" if flags & FAR_BIT != 0 else "near"
            areas.append((area, kind, _size(read, write, bus, slot, area, kind)))
    write(bus, slot, CLAIMS, claims)
    return tuple(areas)


def _size(read, write, bus, slot, area, kind):
    """Return the size of an area of a kind."""
    kept = _kept_of_ones(read, write, bus, slot, low_index(area))
    start = kept - (kept & AREA_LOW_BITS)
    if kind == "far":
        start = start + _kept_of_ones(read, write, bus, slot, high_index(area)) * NEAR
    # Of all ones just the bits from the size on are kept.
    return start & -start


def _kept_of_ones(read, write, bus, slot, index):
    """Return what a register keeps of ONES; it holds behind it what it held before."""
    before = read(bus, slot, index)
    write(bus, slot, index, ONES)
    kept = read(bus, slot, index)
    write(bus, slot, index, before)
    return kept
