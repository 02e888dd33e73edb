"""Registers as in point 18, by the words of the document, with a check of each access."""

import random

from plain import walked

ONES = 2 ** 32 - 1


class Bus:
    """Registers of a tree that held anything before; whoever does what may not be done is noted in faults."""

    def __init__(self, whole, seed):
        source = random.Random(seed)
        self.faults = []
        self.reads = self.writes = 0
        self.parts = dict(walked(whole))
        self.bridges = {}
        for path in sorted(path for path, part in self.parts.items() if part[0] == "bridge"):
            self.bridges.setdefault(path[:-1], []).append(path)
        self.cells = {path: self.some_cells(part, source) for path, part in self.parts.items()}

    def some_cells(self, part, source):
        """Sixteen registers that hold anything that they may hold."""
        numbers = [0, ONES, source.randrange(2 ** 32), 255 << 16 | 1 << 8, 1 << 16 | 1 << 8, 3 << 16 | 2 << 8 | 7,
                   source.randrange(1, 9) << 16 | source.randrange(1, 9) << 8 | source.randrange(256)]
        cells = [source.choice(numbers) for _ in range(16)]
        cells[0] = source.choice([0, 1, ONES - 1, source.randrange(ONES)])
        cells[1] = source.choice([0, ONES - 1, source.randrange(2 ** 31) * 2]) + (part[0] == "bridge")
        if part[0] == "device":
            for k in range(4):
                start = source.choice([0, 2 ** 64 - 1, source.randrange(2 ** 64), source.randrange(2 ** 34)])
                cells[4 + 2 * k: 6 + 2 * k] = self.kept(part, k, start % 2 ** 32, start >> 32)
        return cells

    def kept(self, part, k, low, high):
        """What the two registers of an area keep of what is written to them."""
        if k >= len(part[2]):
            return [0, 0]
        kind, size = part[2][k]
        start = (high * 2 ** 32 + low) // size * size
        return [start % 2 ** 32 + 2 + (kind == "far"), start >> 32 if kind == "far" else 0]

    def passing(self, path, bus):
        """The path of the segment to which an access that comes to a segment is passed on, or None."""
        for at in self.bridges.get(path, []):
            first, last = self.cells[at][3] >> 8 & 255, self.cells[at][3] >> 16 & 255
            if 1 <= first <= bus <= last:
                return at if bus == first else self.passing(at, bus)
        return None

    def find(self, bus, slot, index):
        for value, most in ((bus, 255), (slot, 7), (index, 15)):
            if type(value) is not int or not 0 <= value <= most:
                self.faults.append(("access", bus, slot, index))
        path = () if bus == 0 else self.passing((), bus)
        return None if path is None or path + (slot,) not in self.parts else path + (slot,)

    def read(self, bus, slot, index):
        self.reads += 1
        path = self.find(bus, slot, index)
        return ONES if path is None else self.cells[path][index]

    def write(self, bus, slot, index, value):
        self.writes += 1
        path = self.find(bus, slot, index)
        if type(value) is not int or not 0 <= value <= ONES:
            self.faults.append(("value", value))
        if path is not None:
            self.store(path, index, value)

    def store(self, path, index, value):
        part, cells = self.parts[path], self.cells[path]
        if part[0] == "device" and 4 <= index <= 11:
            if cells[2] & 1:
                self.faults.append(("claims", path, index))
            pair = cells[index // 2 * 2: index // 2 * 2 + 2]
            pair[index % 2] = value
            low, high = pair
            cells[index // 2 * 2: index // 2 * 2 + 2] = self.kept(part, index // 2 - 2, low, high)
        elif index in ((2,) if part[0] == "device" else (3, 4, 6, 7)):
            cells[index] = value
        else:
            self.faults.append(("index", path, index))
