"""Points 2, 3, 18 and 19: the registers of a board, and how settings are written to them."""

import copy
import inspect
import random
import unittest

from buswindows.boards import Board, program
from buswindows.requests import are_settings
from buswindows.rooms import stretch
from buswindows.walking import walk
from buswindows.windows import assignment_at, count_assignments, first_assignment
from bus import Bus
from plain import bridge, device, some_tree, tree, walked

SPACE = 2 ** 48
FAR = 2 ** 32
ONES = 2 ** 32 - 1
T = tree(device("disk", ("far", 2 ** 20)), bridge("east", device("net", ("near", 4096), ("near", 16)), None))


def numbers(first, last, segment=0, rest=0):
    return rest << 24 | last << 16 | first << 8 | segment


def contents(board, bus, slot):
    return [board.read(bus, slot, index) for index in range(16)]


class Devices(unittest.TestCase):
    def made(self, *areas):
        return Board(tree(None, device("a", *areas)))

    def test_at_first(self):
        board = self.made(("near", 16), ("far", 2 ** 40), ("near", 4096))
        self.assertEqual(contents(board, 0, 1)[:12], [1, 0, 0, 0, 2, 0, 3, 0, 2, 0, 0, 0])
        self.assertEqual(contents(board, 0, 1)[12:], [0] * 4)
        self.assertEqual(contents(self.made(), 0, 1), [1] + [0] * 15)

    def test_what_a_write_changes(self):
        for value in (0, 1, ONES, 12345678):
            board = self.made(("near", 16))
            for index in (0, 1, 6, 7, 8, 9, 10, 11):
                board.write(0, 1, index, value)
                self.assertEqual(contents(board, 0, 1)[:2] + contents(board, 0, 1)[4:12], [1, 0, 2] + [0] * 7)
            board.write(0, 1, 2, value)
            self.assertEqual(board.read(0, 1, 2), value)
            self.assertEqual(contents(board, 0, 1)[:2] + contents(board, 0, 1)[4:12], [1, 0, 2] + [0] * 7)

    def test_the_other_registers_keep_or_never_change(self):
        board = self.made(("near", 16))
        for index in (3, 12, 13, 14, 15):
            board.write(0, 1, index, 77)
            self.assertIn(board.read(0, 1, index), (0, 77))
            self.assertEqual(contents(board, 0, 1)[:3] + contents(board, 0, 1)[4:12], [1, 0, 0, 2] + [0] * 7)

    def test_starts(self):
        for kind, most in (("near", 31), ("far", 40)):
            for k in range(4, most + 1):
                for low, high in ((ONES, ONES), (0, 0), (0x12345678, 0x9ABCDEF0), (2 ** 31, 1), (16, 256), (15, 255)):
                    board = self.made(("near", 16), (kind, 2 ** k))
                    start = (high * 2 ** 32 + low) >> k << k
                    flags = 3 if kind == "far" else 2
                    upper = start >> 32 if kind == "far" else 0
                    # Each of the two registers is written by itself.
                    board.write(0, 1, 6, low)
                    self.assertEqual(contents(board, 0, 1)[4:8], [2, 0, start % 2 ** 32 | flags, 0])
                    board.write(0, 1, 7, high)
                    self.assertEqual(contents(board, 0, 1)[4:8], [2, 0, start % 2 ** 32 | flags, upper])
                    board.write(0, 1, 6, 0)
                    self.assertEqual(contents(board, 0, 1)[4:8], [2, 0, flags, upper])
                    board.write(0, 1, 7, 0)
                    self.assertEqual(contents(board, 0, 1)[4:8], [2, 0, flags, 0])

    def test_areas_change_while_the_claims_are_on_too(self):
        board = self.made(("near", 16))
        board.write(0, 1, 2, 1)
        board.write(0, 1, 4, 64)
        self.assertEqual(board.read(0, 1, 4), 66)

    def test_settings(self):
        board = self.made(("near", 4096), ("far", 2 ** 33), ("near", 16))
        off = (("a", (None, None, None)),)
        self.assertEqual(board.settings(), off)
        for claims in (1, 3, ONES):
            board.write(0, 1, 2, claims)
            # A far area has no block at the near address 0.
            self.assertEqual(board.settings(), (("a", ((0, 4096), None, (0, 16))),))
        for claims in (0, 2, ONES - 1):
            board.write(0, 1, 2, claims)
            self.assertEqual(board.settings(), off)
        board.write(0, 1, 2, 1)
        board.write(0, 1, 4, 0xFFFFFFFF)
        board.write(0, 1, 7, 3)
        board.write(0, 1, 8, 48)
        self.assertEqual(board.settings(), (("a", ((FAR - 4096, 4096), (2 ** 33, 2 ** 33), (48, 16))),))
        for high, block in ((2, (2 ** 33, 2 ** 33)), (1, None), (0, None), (2 ** 16 - 2, (SPACE - 2 ** 33, 2 ** 33)),
                            (2 ** 16 - 1, (SPACE - 2 ** 33, 2 ** 33)), (2 ** 16, None), (ONES, None), (2 ** 31, None)):
            board.write(0, 1, 7, high)
            self.assertEqual(board.settings()[0][1][1], block, high)

    def test_far_areas_that_begin_at_near_addresses(self):
        board = self.made(("far", 16))
        board.write(0, 1, 2, 1)
        for low, high, block in ((0, 0, None), (ONES, 0, None), (0, 1, (FAR, 16)), (16, 1, (FAR + 16, 16)),
                                 (ONES, 2 ** 16 - 1, (SPACE - 16, 16)), (0, 2 ** 16, None)):
            board.write(0, 1, 4, low)
            board.write(0, 1, 5, high)
            self.assertEqual(board.settings(), (("a", (block,)),))


class Bridges(unittest.TestCase):
    def test_at_first(self):
        for given in (0, 1, ONES, numbers(3, 4, 5, 6)):
            board = Board(tree(bridge("a")), numbers=given)
            self.assertEqual(contents(board, 0, 0), [1, 1, 0, given] + [0] * 12)
        self.assertEqual(contents(Board(tree(bridge("a"))), 0, 0), [1, 1] + [0] * 14)

    def test_what_a_write_changes(self):
        board = Board(tree(bridge("a")))
        for index in (2, 3, 4, 6, 7):
            for value in (ONES, 0, 0x12345678):
                board.write(0, 0, index, value)
                self.assertEqual(board.read(0, 0, index), value)
        before = contents(board, 0, 0)
        for index in (0, 1):
            board.write(0, 0, index, 12)
            self.assertEqual(contents(board, 0, 0), before)
        for index in (5, 8, 9, 10, 11, 12, 13, 14, 15):
            board.write(0, 0, index, 12)
            self.assertIn(board.read(0, 0, index), (0, 12))
            self.assertEqual([board.read(0, 0, at) for at in (0, 1, 2, 3, 4, 6, 7)],
                             [1, 1] + [0x12345678] * 5)

    def test_near_windows(self):
        board = Board(tree(bridge("a")))
        self.assertEqual(board.settings(), (("a", None, None),))
        for value, window in (
            (12, (0, 4096)), (11, None), (4096 + 12, (4096, 4096)), (4096 + 13, None), (8192 + 13, (8192, 8192)),
            (32, (0, FAR)), (33, None), (2 ** 31 + 31, (2 ** 31, 2 ** 31)), (2 ** 31 + 32, None), (63, None), (0, None),
            (ONES - 63 + 12, (FAR - 4096, 4096)), (4096, None), (4096 + 11, None), (4096 + 10, None), (4, None),
            (8192 + 4, None), (64 + 12, (0, 4096)), (4032 + 12, (0, 4096)), (2048 + 4096 + 12, (4096, 4096)),
            (48, None),
            (49, None), (2 ** 20 + 20, (2 ** 20, 2 ** 20)),
        ):
            board.write(0, 0, 4, value)
            self.assertEqual(board.settings(), (("a", None, window),), value)

    def test_far_windows(self):
        board = Board(tree(bridge("a")))
        for low, high, window in (
            (12, 1, (FAR, 4096)), (12, 0, None), (4096 + 12, 0, None), (32, 1, (FAR, FAR)), (33, 1, None),
            (33, 2, (2 ** 33, 2 ** 33)), (33, 3, None), (47, 2 ** 15, (2 ** 47, 2 ** 47)), (48, 0, None), (47, 0, None),
            (46, 2 ** 14, (2 ** 46, 2 ** 46)), (12, 2 ** 16, None), (12, 2 ** 16 - 1, (SPACE - FAR, 4096)),
            (63, 2 ** 31, None), (ONES - 63 + 12, 2 ** 16 - 1, (SPACE - 4096, 4096)), (11, 1, None), (4, 1, None),
            (0, 1, None), (64 + 12, 1, (FAR, 4096)), (4096 + 13, 1, None), (8192 + 13, 1, (FAR + 8192, 8192)),
            (12, ONES, None), (49, 2 ** 17, None), (50, 0, None),
            (2 ** 31 + 31, 7, (7 * FAR + 2 ** 31, 2 ** 31)), (2 ** 31 + 32, 7, None), (4032 + 12, 1, (FAR, 4096)),
        ):
            board.write(0, 0, 6, low)
            board.write(0, 0, 7, high)
            self.assertEqual(board.settings(), (("a", window, None),), (low, high))
        board.write(0, 0, 2, 1)
        self.assertEqual(board.settings(), (("a", (FAR, 4096), None),))


class Accesses(unittest.TestCase):
    WHOLE = tree(
        bridge("a", bridge("b", device("x")), device("y"), bridge("c", None, device("z"))),
        device("w"), None,
        bridge("d", device("u")),
    )
    NAMES = ("a", "b", "x", "y", "c", "z", "w", "d", "u")

    def board(self, **given):
        """A board with the numbers of these bridges."""
        board = Board(self.WHOLE)
        parts = {part[1]: (path, part) for path, part in walked(self.WHOLE)}
        # From below, while the ones above are set so that they are reached.
        for name in "bcad":
            path = parts[name][0]
            for at in range(1, len(path)):
                board.write(at - 1, path[at - 1], 3, numbers(at, 255))
            board.write(len(path) - 1, path[-1], 3, given.get(name, 0))
            for at in range(1, len(path)):
                board.write(0, path[0], 3, 0)
        return board

    def found(self, board, bus):
        """The names of what is reached in each slot by a bus number."""
        identities = [board.read(bus, slot, 0) for slot in range(8)]
        return [None if identity == ONES else self.NAMES[identity - 1] for identity in identities]

    def test_the_number_zero(self):
        top = ["a", "w", None, "d"] + [None] * 4
        for given in (0, ONES, numbers(0, 0), numbers(0, 255), numbers(1, 255), numbers(255, 255)):
            board = Board(self.WHOLE, numbers=given)
            self.assertEqual(self.found(board, 0), top)
        # No bridge passes on anything if its first number is 0.
        for given in (numbers(0, 0), numbers(0, 255), numbers(0, 1), 0, numbers(5, 4), numbers(255, 0)):
            board = Board(self.WHOLE, numbers=given)
            for bus in (1, 2, 4, 5, 254, 255):
                self.assertEqual(self.found(board, bus), [None] * 8)

    def test_numbers_in_preorder(self):
        board = self.board(a=numbers(1, 3), b=numbers(2, 2), c=numbers(3, 3), d=numbers(4, 4))
        self.assertEqual(self.found(board, 0)[:4], ["a", "w", None, "d"])
        self.assertEqual(self.found(board, 1), ["b", "y", "c"] + [None] * 5)
        self.assertEqual(self.found(board, 2), ["x"] + [None] * 7)
        self.assertEqual(self.found(board, 3), [None, "z"] + [None] * 6)
        self.assertEqual(self.found(board, 4), ["u"] + [None] * 7)
        for bus in (5, 6, 128, 255):
            self.assertEqual(self.found(board, bus), [None] * 8)

    def test_numbers_at_both_ends(self):
        board = self.board(a=numbers(1, 255), b=numbers(255, 255))
        self.assertEqual(self.found(board, 1)[:3], ["b", "y", "c"])
        self.assertEqual(self.found(board, 255)[:1], ["x"])
        self.assertEqual(self.found(board, 254), [None] * 8)
        board = self.board(a=numbers(7, 9), b=numbers(8, 9), c=numbers(9, 9))
        self.assertEqual(self.found(board, 6), [None] * 8)
        self.assertEqual(self.found(board, 7)[:2], ["b", "y"])
        self.assertEqual(self.found(board, 8)[:2], ["x", None])
        # b passes 9 on, to nobody; c is not asked.
        self.assertEqual(self.found(board, 9), [None] * 8)
        self.assertEqual(self.found(board, 10), [None] * 8)

    def test_numbers_that_overlap(self):
        # The first bridge on a segment takes what several pass on, also if it goes to nobody.
        board = self.board(a=numbers(1, 4), b=numbers(2, 2), c=numbers(3, 3), d=numbers(4, 4))
        self.assertEqual(self.found(board, 4), [None] * 8)
        board = self.board(a=numbers(2, 2), d=numbers(1, 3))
        self.assertEqual(self.found(board, 2)[:3], ["b", "y", "c"])
        self.assertEqual(self.found(board, 1)[:2], ["u", None])
        self.assertEqual(self.found(board, 3), [None] * 8)
        board = self.board(a=numbers(5, 5), d=numbers(5, 9))
        self.assertEqual(self.found(board, 5)[:3], ["b", "y", "c"])
        board = self.board(a=numbers(1, 9), b=numbers(1, 9), c=numbers(4, 4))
        self.assertEqual(self.found(board, 1)[:3], ["b", "y", "c"])
        self.assertEqual(self.found(board, 4), [None] * 8)

    def test_the_number_of_the_segment_and_the_rest_mean_nothing(self):
        board = self.board(a=numbers(1, 2, 77, 255), b=numbers(2, 2, 0, 1))
        self.assertEqual(self.found(board, 2)[0], "x")
        self.assertEqual(board.read(0, 0, 3), numbers(1, 2, 77, 255))

    def test_slots_that_are_empty_or_do_not_exist(self):
        board = self.board(a=numbers(1, 1))
        for bus, slot in ((0, 2), (0, 4), (0, 7), (1, 3), (1, 7), (2, 0), (255, 0)):
            for index in range(16):
                self.assertEqual(board.read(bus, slot, index), ONES)
                board.write(bus, slot, index, 5)
                self.assertEqual(board.read(bus, slot, index), ONES)
        self.assertEqual(board.settings(), self.board().settings())

    def test_identities(self):
        for seed in range(10):
            whole = some_tree(seed)
            for slot, part in enumerate(whole[2]):
                if part is not None:
                    names = [other[1] for _, other in walked(whole)]
                    self.assertEqual(Board(whole).read(0, slot, 0), names.index(part[1]) + 1)
                    self.assertEqual(Board(whole).read(0, slot, 1), 1 if part[0] == "bridge" else 0)

    def test_boards_are_apart(self):
        one, other = Board(T), Board(T)
        self.assertFalse(one == other)
        self.assertTrue(one != other)
        self.assertTrue(one == one)
        self.assertFalse(one == None)  # noqa: E711
        one.write(0, 0, 2, 1)
        self.assertEqual(other.read(0, 0, 2), 0)
        self.assertIsNone(one.write(0, 0, 2, 1))

    def test_methods(self):
        for name, arguments in (("read", "(self, bus, slot, index)"), ("write", "(self, bus, slot, index, value)"),
                                ("settings", "(self)"), ("__init__", "(self, tree, *, numbers=0)")):
            self.assertEqual(str(inspect.signature(vars(Board)[name])), arguments)

    def test_random_accesses_against_plain_registers(self):
        for seed in range(40):
            source = random.Random(seed)
            whole = some_tree(seed, bridges=6, devices=8, slots=5)
            bus = Bus(whole, seed)
            board = Board(whole)
            for path in bus.cells:
                part = bus.parts[path]
                bus.cells[path] = [list(bus.cells).index(path) + 1, int(part[0] == "bridge")] + [0] * 14
                if part[0] == "device":
                    for k in range(4):
                        bus.cells[path][4 + 2 * k: 6 + 2 * k] = bus.kept(part, k, 0, 0)
            top = [slot for slot, part in enumerate(whole[2]) if part is not None and part[0] == "bridge"]
            for turn in range(300):
                at, slot = source.choice((0, 0, 1, 2, 3)), source.randrange(8)
                index = source.choice((2, 3, 3, 3, 4, 5, 6, 7, 8, 9, 10, 11))
                if turn < 40 and top:
                    at, slot, index = 0, source.choice(top), 3
                value = source.randrange(2 ** 32)
                if index == 3:
                    value = numbers(source.randrange(4), source.randrange(5), 0, source.randrange(256))
                path = bus.find(at, slot, index)
                kept = {"device": (2, 4, 5, 6, 7, 8, 9, 10, 11), "bridge": (3, 4, 6, 7)}
                if path is None or index in kept[bus.parts[path][0]]:
                    board.write(at, slot, index, value)
                    bus.write(at, slot, index, value)
                at, slot = source.randrange(5), source.randrange(8)
                for index in (0, 1, 3, 4, 5, 6, 7):
                    path = bus.find(at, slot, index)
                    if not (path is not None and index in (3, 5) and (index, bus.parts[path][0]) != (3, "bridge")):
                        self.assertEqual(board.read(at, slot, index), bus.read(at, slot, index))
            self.assertTrue(are_settings(whole, board.settings()))


class Program(unittest.TestCase):
    def check(self, whole, settings, seed=0):
        """Program registers that held anything before, and check all that is written."""
        before = copy.deepcopy((whole, settings))
        bus = Bus(whole, seed)
        walk(bus.read, bus.write)
        held = copy.deepcopy(bus.cells)
        self.assertIsNone(program(bus.write, whole, settings))
        self.assertEqual(bus.faults, [])
        for path, part in bus.parts.items():
            allowed = (2, 4, 5, 6, 7, 8, 9, 10, 11) if part[0] == "device" else (4, 6, 7)
            for index in range(16):
                if index not in allowed:
                    self.assertEqual(bus.cells[path][index], held[path][index])
            row = settings[list(bus.parts).index(path)]
            if part[0] == "device":
                on = len(part[2]) > 0 and None not in row[1]
                self.assertEqual(bus.cells[path][2], int(on))
        # The same registers on a board tell the settings.
        board = Board(whole)
        walk(board.read, board.write)
        for path in bus.parts:
            number = 0 if len(path) == 1 else bus.cells[path[:-1]][3] >> 8 & 255
            for index in range(2, 12):
                if index != 3:
                    board.write(number, path[-1], index, bus.cells[path][index])
        self.assertEqual(board.settings(), settings)
        program(board.write, whole, settings)
        self.assertEqual(board.settings(), settings)
        self.assertEqual((whole, settings), before)

    def test_assignments(self):
        for seed in range(40):
            whole = some_tree(seed, bridges=8, devices=12, slots=7)
            rooms = (stretch(FAR, 2 ** 45), stretch(0, FAR))
            many = count_assignments(whole, rooms)
            for number in (0, many // 2, many - 1):
                self.check(whole, assignment_at(whole, rooms, number), seed)

    def test_settings(self):
        for seed in range(80):
            source = random.Random(seed)
            whole = some_tree(seed, sizes=(16, 4096, 2 ** 20, 2 ** 31), bridges=8, devices=12, slots=7)
            rows = []
            for _, part in walked(whole):
                if part[0] == "device":
                    blocks = tuple((self.some_start(source, kind, size), size) for kind, size in part[2])
                    rows.append((part[1], source.choice((blocks, (None,) * len(blocks)))))
                else:
                    windows = []
                    for kind, most in (("far", 47), ("near", 32)):
                        size = 1 << source.randrange(12, most + 1)
                        windows.append(source.choice((None, (self.some_start(source, kind, size), size))))
                    rows.append((part[1], *windows))
            self.assertTrue(are_settings(whole, tuple(rows)))
            self.check(whole, tuple(rows), seed)

    def some_start(self, source, kind, size):
        low, high = (max(FAR, size), SPACE) if kind == "far" else (0, FAR)
        return source.choice((low, high - size, source.randrange(low // size, high // size) * size))

    def test_settings_after_others(self):
        whole = tree(bridge("a", device("x", ("far", 2 ** 40), ("near", 16)), device("y")),
                     device("z", ("near", 2 ** 31)))
        board = Board(whole)
        walk(board.read, board.write)
        nothing = (("a", None, None), ("x", (None, None)), ("y", ()), ("z", (None,)))
        full = (("a", (2 ** 47, 2 ** 47), (0, FAR)), ("x", ((SPACE - 2 ** 40, 2 ** 40), (FAR - 16, 16))), ("y", ()),
                ("z", ((2 ** 31, 2 ** 31),)))
        small = (("a", (FAR, 4096), (4096, 4096)), ("x", ((2 ** 40, 2 ** 40), (0, 16))), ("y", ()),
                 ("z", ((0, 2 ** 31),)))
        for settings in (full, nothing, small, full, small, nothing):
            program(board.write, whole, settings)
            self.assertEqual(board.settings(), settings)
            self.assertEqual([board.read(1, 0, 2), board.read(1, 1, 2), board.read(0, 1, 2)],
                             [int(settings != nothing), 0, int(settings != nothing)])

    def test_claims_that_were_on(self):
        board = Board(T)
        walk(board.read, board.write)
        for slot in (0, 1):
            board.write(0, slot, 2, ONES)
        board.write(1, 0, 2, ONES)
        seen = []

        def write(bus, slot, index, value):
            is_device = board.read(bus, slot, 1) & 1 == 0
            if is_device and index >= 4:
                seen.append(board.read(bus, slot, 2) & 1)
            board.write(bus, slot, index, value)

        rooms = (((FAR, 2 ** 21),), ((0, 16384),))
        program(write, T, first_assignment(T, rooms))
        self.assertEqual(set(seen), {0})
        self.assertEqual(board.settings(), first_assignment(T, rooms))
        self.assertEqual([board.read(0, 0, 2), board.read(0, 1, 2), board.read(1, 0, 2)], [1, ONES, 1])


if __name__ == "__main__":
    unittest.main()
