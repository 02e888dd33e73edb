"""Points 2, 3 and 19: walking through registers that held anything before."""

import copy
import random
import unittest

from buswindows.boards import Board
from buswindows.walking import walk
from bus import ONES, Bus
from plain import bridge, device, some_tree, tree, walked


def some_great_tree(seed, most=40):
    """A tree of up to forty bridges, eight of them one below another."""
    source = random.Random(seed)
    names = (first + second + third for first in "abcdefgh" for second in "abcdefgh" for third in "abcdefgh")
    left = [most]

    def parts(depth):
        made = []
        for slot in range(source.randrange(1, 9)):
            pick = source.random()
            if pick < 0.45 and left[0] > 0 and depth < 8:
                left[0] -= 1
                made.append(bridge(next(names), *parts(depth + 1)))
            elif pick < 0.8:
                areas = [(kind, 1 << source.randrange(4, 41 if kind == "far" else 32))
                         for kind in source.choices(("far", "near"), k=source.randrange(5))]
                made.append(device(next(names), *areas))
            else:
                made.append(None)
        return tuple(made)

    return tree(*parts(0))


def chained(many, part):
    for at in range(many):
        part = bridge("b" * (at + 1), None, part)
    return tree(None, part)


def expected_rows(whole, identities):
    """The rows of a walk through registers of a tree with these identities."""
    parts = list(walked(whole))
    firsts = {}
    for path, part in parts:
        if part[0] == "bridge":
            firsts[path] = len(firsts) + 1
    rows = []
    for (path, part), identity in zip(parts, identities):
        if part[0] == "device":
            areas = tuple((k, kind, size) for k, (kind, size) in enumerate(part[2]))
            rows.append(("device", path, identity, areas))
        else:
            last = max(first for other, first in firsts.items() if other[:len(path)] == path)
            rows.append(("bridge", path, identity, firsts[path], last))
    return tuple(rows)


class Walk(unittest.TestCase):
    def check(self, whole, seed):
        bus = Bus(whole, seed)
        before = copy.deepcopy(bus.cells)
        rows = walk(bus.read, bus.write)
        self.assertEqual(bus.faults, [])
        expected = expected_rows(whole, [cells[0] for cells in before.values()])
        self.assertEqual(rows, expected)
        self.assertEqual(repr(rows), repr(expected))
        numbers = {(): 0, **{row[1]: row[3] for row in rows if row[0] == "bridge"}}
        for row in rows:
            cells = before[row[1]]
            if row[0] == "bridge":
                cells[3] = cells[3] >> 24 << 24 | row[4] << 16 | row[3] << 8 | numbers[row[1][:-1]]
            # All other bits and registers are as they were.
            self.assertEqual(bus.cells[row[1]], cells)
        self.assertEqual(len(rows), len(bus.parts))
        # A look at each slot of each segment is enough, and a few accesses for each part and area.
        self.assertLess(bus.reads + bus.writes, 16 * (len(numbers) + 1) + 60 * len(bus.parts))
        return bus

    def test_trees(self):
        for seed in range(150):
            whole = some_tree(seed, sizes=(16, 4096, 2 ** 20, 2 ** 31), bridges=8, devices=12, slots=7)
            self.check(whole, seed)
            self.check(whole, seed + 1000)

    def test_up_to_forty_bridges(self):
        counts, depths = [], []
        for seed in range(60):
            whole = some_great_tree(seed)
            bridges = [path for path, part in walked(whole) if part[0] == "bridge"]
            counts.append(len(bridges))
            depths += [len(path) for path in bridges]
            self.check(whole, seed)
        self.assertEqual([max(counts), max(depths)], [40, 8])

    def test_eight_bridges_one_below_another(self):
        for seed in range(20):
            self.check(chained(8, device("x", ("far", 2 ** 40), ("near", 2 ** 31), ("near", 16), ("far", 16))), seed)
            self.check(chained(8, None), seed)

    def test_bridges_that_all_had_the_same_numbers(self):
        for whole in (chained(5, device("x", ("near", 16))), some_great_tree(3), some_great_tree(4, 12)):
            for numbers in (0, ONES, 255 << 16 | 1 << 8, 1 << 16 | 1 << 8, 2 << 16 | 2 << 8, 255 << 16 | 2 << 8,
                            3 << 8):
                bus = Bus(whole, 1)
                for path, part in bus.parts.items():
                    if part[0] == "bridge":
                        bus.cells[path][3] = numbers
                identities = [cells[0] for cells in bus.cells.values()]
                self.assertEqual(walk(bus.read, bus.write), expected_rows(whole, identities))
                self.assertEqual(bus.faults, [])
                for path, part in bus.parts.items():
                    if part[0] == "bridge":
                        self.assertEqual(bus.cells[path][3] >> 24, numbers >> 24)

    def test_a_walk_behind_another_one(self):
        for seed in range(20):
            whole = some_great_tree(seed, 10)
            bus = self.check(whole, seed)
            before = copy.deepcopy(bus.cells)
            again = walk(bus.read, bus.write)
            self.assertEqual(again, expected_rows(whole, [cells[0] for cells in before.values()]))
            self.assertEqual(bus.cells, before)

    def test_each_size(self):
        for kind, most in (("far", 40), ("near", 31)):
            for k in range(4, most + 1):
                bus = self.check(tree(device("a", (kind, 2 ** k), (kind, 16), (kind, 2 ** most))), k)
                self.assertEqual(walk(bus.read, bus.write)[0][3], ((0, kind, 2 ** k), (1, kind, 16),
                                                                   (2, kind, 2 ** most)))

    def test_empty_slots(self):
        nothing = []
        self.assertEqual(walk(lambda bus, slot, index: ONES, lambda *args: nothing.append(args)), ())
        self.assertEqual(nothing, [])
        self.check(tree(), 1)
        self.check(tree(None, None), 1)
        self.check(tree(*[None] * 7, device("a", ("near", 16))), 1)
        self.check(tree(*[None] * 7, bridge("a", *[None] * 7, bridge("b"))), 1)

    def test_identities_that_are_nearly_ones(self):
        whole = tree(device("a"), bridge("b", device("c")), device("d"))
        bus = Bus(whole, 1)
        for path, identity in zip(list(bus.cells), (0, ONES - 1, ONES - 2, 2 ** 31)):
            bus.cells[path][0] = identity
        self.assertEqual([row[2] for row in walk(bus.read, bus.write)], [0, ONES - 1, ONES - 2, 2 ** 31])

    def test_boards(self):
        for seed in range(30):
            whole = some_great_tree(seed, 20)
            for numbers in (0, ONES, 2 ** 24 - 1, random.Random(seed).randrange(2 ** 32)):
                board = Board(whole, numbers=numbers)
                settings = board.settings()
                rows = walk(board.read, board.write)
                self.assertEqual(rows, expected_rows(whole, list(range(1, len(rows) + 1))))
                self.assertEqual(board.settings(), settings)
                by_path = {row[1]: row for row in rows}
                for row in rows:
                    segment = by_path[row[1][:-1]][3] if len(row[1]) > 1 else 0
                    self.assertEqual(board.read(segment, row[1][-1], 0), row[2])
                    if row[0] == "bridge":
                        self.assertEqual(board.read(segment, row[1][-1], 3),
                                         numbers >> 24 << 24 | row[4] << 16 | row[3] << 8 | segment)

    def test_claims_that_are_on(self):
        whole = tree(device("a", ("near", 4096), ("far", 2 ** 33)), bridge("b", device("c", ("near", 16))))
        for claims in (0, 1, 2, 3, ONES, ONES - 1):
            bus = Bus(whole, 5)
            for path in ((0,), (1, 0)):
                bus.cells[path][2] = claims
            before = copy.deepcopy(bus.cells)
            walk(bus.read, bus.write)
            self.assertEqual(bus.faults, [])
            self.assertEqual([bus.cells[path] for path in ((0,), (1, 0))], [before[path] for path in ((0,), (1, 0))])


if __name__ == "__main__":
    unittest.main()
