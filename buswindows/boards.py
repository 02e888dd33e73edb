"""Boards: the areas and windows of a tree behind registers, and how these are written."""

from buswindows.bounds import MAX_AREAS, MAX_PARTS, NEAR, ONES
from buswindows.layout import (
    AREA_BIT, AREA_LOW_BITS, AREAS, CLAIMS, EXPONENT_BITS, FAR_BIT, FAR_WINDOW, FIRST_SHIFT, LAST_SHIFT,
    LEAST_EXPONENT, NEAR_WINDOW, NUMBER_BITS, NUMBERS, SORT, WINDOW_LOW_BITS, high_index, low_index,
)
from buswindows.segments import is_block_of, segment_paths
from buswindows.trees import parts_in_order

CELLS = 16


class DeviceCells:
    """The registers of a device."""

    def __init__(self, identity, name, areas):
        self.name = name
        self.areas = areas
        self.cells = [identity] + [0] * (CELLS - 1)
        for index, (kind, size) in enumerate(areas):
            self.cells[low_index(index)] = _flags(kind)

    def passes(self, bus):
        """Return whether an access is passed on: a device never does."""
        return False

    def write(self, index, value):
        """Write a register."""
        if AREAS <= index < low_index(MAX_AREAS):
            self._write_area((index - AREAS) // 2, index % 2, value)
        elif index > SORT:
            self.cells[index] = value

    def _write_area(self, area, is_high, value):
        """Write the low or the high register of an area, or of none."""
        if area >= len(self.areas):
            return
        kind, size = self.areas[area]
        if is_high == 0:
            self.cells[low_index(area)] = (value & -size) | _flags(kind)
        elif kind == "far":
            self.cells[high_index(area)] = ((value * NEAR) & -size) // NEAR

    def row(self):
        """Return the row of settings that the registers tell."""
        return (self.name, tuple([self._block(index) for index in range(len(self.areas))]))

    def _block(self, area):
        """Return the block of an area, or None."""
        kind, size = self.areas[area]
        low = self.cells[low_index(area)]
        start = self.cells[high_index(area)] * NEAR + low - (low & AREA_LOW_BITS)
        block = (start, size)
        return block if self.cells[CLAIMS] & 1 == 1 and is_block_of(kind, block) else None


class BridgeCells:
    """The registers of a bridge."""

    def __init__(self, identity, name, numbers):
        self.name = name
        self.cells = [identity] + [0] * (CELLS - 1)
        self.cells[SORT] = 1
        self.cells[NUMBERS] = numbers

    def first(self):
        """Return the number of the segment below."""
        return (self.cells[NUMBERS] >> FIRST_SHIFT) & NUMBER_BITS

    def passes(self, bus):
        """Return whether an access with a bus number is passed on."""
        last = (self.cells[NUMBERS] >> LAST_SHIFT) & NUMBER_BITS
        return 1 <= self.first() <= bus <= last

    def write(self, index, value):
        """Write a register."""
        if index > SORT:
            self.cells[index] = value

    def row(self):
        """Return the row of settings that the registers tell."""
        far = self.cells[FAR_WINDOW + 1] * NEAR + self.cells[FAR_WINDOW]
        return (self.name, _window("far", far), _window("near", self.cells[NEAR_WINDOW]))


def _flags(kind):
    """Return the bits of the low register of an area of a kind that never change."""
    return AREA_BIT | FAR_BIT if kind == "far" else AREA_BIT


def _window(kind, value):
    """Return the window that start and exponent in one value tell, or None."""
    exponent = value & EXPONENT_BITS
    block = (value - (value & WINDOW_LOW_BITS), 1 << exponent)
    return block if exponent >= LEAST_EXPONENT and is_block_of(kind, block) else None


class Board:
    """The registers of a tree, read and written by bus number, slot and index."""

    def __init__(self, tree, *, numbers=0):
        # The registers of each device and bridge by its path, in preorder.
        self._parts = {}
        for index, (path, part) in enumerate(parts_in_order(tree)):
            if part[0] == "device":
                self._parts[path] = DeviceCells(index + 1, part[1], part[2])
            else:
                self._parts[path] = BridgeCells(index + 1, part[1], numbers)

    def read(self, bus, slot, index):
        """Return what a register holds, ONES where there is none."""
        part = self._part(bus, slot)
        return ONES if part is None else part.cells[index]

    def write(self, bus, slot, index, value):
        """Write a register, where there is one."""
        part = self._part(bus, slot)
        if part is not None:
            part.write(index, value)

    def settings(self):
        """Return the settings that the registers tell."""
        return tuple([part.row() for part in self._parts.values()])

    def _part(self, bus, slot):
        """Return the registers of the part that an access goes to, or None."""
        path = () if bus == 0 else self._passed_on((), bus)
        return None if path is None else self._parts.get(path + (slot,))

    def _passed_on(self, path, bus):
        """Return the path of the segment to which the bridges on a segment pass an access on, or None."""
        for slot in range(MAX_PARTS):
            below = path + (slot,)
            part = self._parts.get(below)
            if part is not None and part.passes(bus):
                return below if part.first() == bus else self._passed_on(below, bus)
        return None


def program(write, tree, settings):
    """Write settings to the registers of a bus with exactly this tree behind a walk."""
    numbers = {path: number for number, path in enumerate(segment_paths(tree))}
    for (path, part), row in zip(parts_in_order(tree), settings):
        bus = numbers[path[:-1]]
        if part[0] == "device":
            _program_device(write, bus, path[-1], part[2], row[1])
        else:
            _program_bridge(write, bus, path[-1], row[1], row[2])


def _program_device(write, bus, slot, areas, blocks):
    """Write the blocks of a device, or that its claims are off."""
    # The areas are not changed while the claims are on.
    write(bus, slot, CLAIMS, 0)
    for index, ((kind, size), block) in enumerate(zip(areas, blocks)):
        if block is not None:
            write(bus, slot, low_index(index), block[0] % NEAR)
            if kind == "far":
                write(bus, slot, high_index(index), block[0] // NEAR)
    if len(blocks) > 0 and None not in blocks:
        write(bus, slot, CLAIMS, 1)


def _program_bridge(write, bus, slot, far, near):
    """Write the windows of a bridge."""
    value = _window_value(far)
    write(bus, slot, FAR_WINDOW, value % NEAR)
    write(bus, slot, FAR_WINDOW + 1, value // NEAR)
    write(bus, slot, NEAR_WINDOW, _window_value(near))


def _window_value(block):
    """Return start and exponent of a window in one value, 0 for None."""
    return 0 if block is None else block[0] + block[1].bit_length() - 1
