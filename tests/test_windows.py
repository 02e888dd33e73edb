"""Points 2, 3, 8 and 9: least windows, wanted sizes, refusals, and what is an assignment."""

import copy
import itertools
import random
import unittest

from buswindows.errors import NoAssignment
from buswindows.rooms import room_of, stretch
from buswindows.trees import names_of
from buswindows.windows import (
    assignment_holds, first_assignment, least_windows, refusal, refusal_holds, wanted,
)
from plain import (
    all_assignments, bridge, device, has_placing, is_assignment, least_size, some_tree, standing, tree, walked,
)
from samples import HUGE, OTHERS

SPACE = 2 ** 48
FAR = 2 ** 32
T = tree(device("disk", ("far", 2 ** 20)),
         bridge("east", device("net", ("near", 4096), ("near", 16)), None, marks=("strict",)))
ROOMS = (((FAR, 2 ** 21),), ((0, 16384),))
FIRST = (("disk", ((FAR, 2 ** 20),)), ("east", None, (0, 8192)), ("net", ((0, 4096), (4096, 16))))


def some_rooms(seed):
    """Rooms of a few blocks of at least GRAIN, and some smaller ones."""
    source = random.Random(seed)
    return tuple(
        room_of([(low + source.randrange(24) * size, size) for size in (4096, 4096, 16384, 32,
                                                                        1024)[:source.randrange(6)]])
        for low in (FAR, 0))


def exact_rooms(whole):
    """Rooms in which the wanted sizes just fit, each in a block of its own."""
    rooms = []
    for low, kind in ((FAR, "far"), (0, "near")):
        start = low
        blocks = []
        for size in sorted(standing(whole, kind), reverse=True):
            blocks.append((start, size))
            start += size
        rooms.append(room_of(blocks))
    return tuple(rooms)


def without_block(room, at):
    return room[:at] + room[at + 1:]


class LeastWindows(unittest.TestCase):
    def test_windows_below_windows(self):
        inner = bridge("in", device("a", ("far", 16), ("near", 2 ** 13), ("far", 2 ** 14)))
        outer = bridge("out", inner, device("b", ("near", 16)), None)
        self.assertEqual(least_windows(tree(inner)), (("in", 2 ** 15, 2 ** 13),))
        self.assertEqual(least_windows(tree(None, outer)), (("out", 2 ** 15, 2 ** 14), ("in", 2 ** 15, 2 ** 13)))
        self.assertEqual(wanted(tree(device("c", ("far", 64)), outer), "far"), (64, 2 ** 15))
        self.assertEqual(wanted(tree(device("c", ("far", 64)), outer), "near"), (2 ** 14,))

    def test_the_least_size(self):
        for sizes, least in (((16,), 4096), ((2048, 2048), 4096), ((2048, 2048, 16), 8192), ((4096,), 4096),
                             ((4096, 16), 8192), ((8192,), 8192), ((2 ** 31,), 2 ** 31), ((2 ** 31, 16), 2 ** 32)):
            self.assertEqual(least_windows(tree(bridge("a", device("b", *[("near", size) for size in sizes])))),
                             (("a", 0, least),))
            self.assertEqual(least_windows(tree(bridge("a", *[device("b" + name, ("far", size)) for name, size in
                                                              zip("xyz", sizes)]))), (("a", least, 0),))

    def test_kinds_that_are_needed(self):
        self.assertEqual(least_windows(tree(bridge("a"))), (("a", 0, 0),))
        self.assertEqual(least_windows(tree(bridge("a", None, device("b")))), (("a", 0, 0),))
        self.assertEqual(least_windows(tree(bridge("a", device("b", ("far", 16))), bridge("c"))),
                         (("a", 4096, 0), ("c", 0, 0)))
        self.assertEqual(least_windows(tree(bridge("a", bridge("c", device("b", ("near", 16)))))),
                         (("a", 0, 4096), ("c", 0, 4096)))
        self.assertEqual(least_windows(tree(bridge("a", bridge("c"), device("b", ("near", 16), ("far", 8192))))),
                         (("a", 8192, 4096), ("c", 0, 0)))
        self.assertEqual(least_windows(tree()), ())
        self.assertEqual([wanted(tree(bridge("a")), "far"), wanted(tree(), "near")], [(), ()])

    def test_order(self):
        whole = tree(bridge("b", bridge("d", device("x", ("far", 16))), bridge("c")), None, bridge("a"))
        self.assertEqual([row[0] for row in least_windows(whole)], ["b", "d", "c", "a"])
        parts = (device("x", ("far", 32), ("near", 64), ("far", 16)), None, bridge("a", device("y", ("far", 2 ** 14))),
                 device("z", ("near", 128), ("near", 16), ("far", 256)))
        self.assertEqual(wanted(tree(*parts), "far"), (32, 16, 2 ** 14, 256))
        self.assertEqual(wanted(tree(*parts), "near"), (64, 128, 16))
        self.assertEqual(wanted(tree(*parts[::-1]), "far"), (256, 2 ** 14, 32, 16))

    def test_sizes_greater_than_all_addresses(self):
        devices = [device("x" + name, *[("far", 2 ** 40)] * 4) for name in "abcdefgh"]
        self.assertEqual(least_windows(tree(bridge("a", *devices))), (("a", 2 ** 45, 0),))
        great = bridge("b", *[device("y" + name, ("far", 2 ** 47), ("far", 16)) for name in "abc"])
        self.assertEqual(least_windows(tree(bridge("a", great, *devices[:1]))), (("a", 2 ** 50, 0), ("b", 2 ** 49, 0)))
        self.assertEqual(wanted(tree(bridge("a", great)), "far"), (2 ** 49,))

    def test_marks_change_nothing(self):
        for seed in range(20):
            whole = some_tree(seed)
            plain = eval(repr(whole).replace("'hiding', 'strict'", "").replace("'hiding',", "").replace("'strict',",
                                                                                                        ""))
            self.assertNotIn("strict", repr(plain))
            rooms = exact_rooms(whole)
            for call in (least_windows, names_of):
                self.assertEqual(call(whole), call(plain))
            self.assertEqual(wanted(whole, "far"), wanted(plain, "far"))
            self.assertEqual(first_assignment(whole, rooms), first_assignment(plain, rooms))

    def test_trees(self):
        for seed in range(80):
            whole = some_tree(seed, bridges=8, devices=16, slots=7)
            bridges = [part for _, part in walked(whole) if part[0] == "bridge"]
            self.assertEqual(least_windows(whole),
                             tuple((part[1], least_size(part, "far"), least_size(part, "near")) for part in bridges))
            for kind in ("far", "near"):
                self.assertEqual(wanted(whole, kind), tuple(standing(whole, kind)))


class Refusals(unittest.TestCase):
    def test_rooms_that_just_hold_what_is_wanted(self):
        refused = 0
        for seed in range(60):
            whole = some_tree(seed)
            rooms = exact_rooms(whole)
            self.assertIsNone(refusal(whole, rooms))
            for at in (0, 1):
                for index in range(len(rooms[at])):
                    less = [rooms[0], rooms[1]]
                    less[at] = without_block(rooms[at], index)
                    found = refusal(whole, tuple(less))
                    self.assertEqual(found[0], ("far", "near")[at])
                    self.assertIs(refusal_holds(whole, tuple(less), found), True)
                    self.assertIs(refusal_holds(whole, rooms, found), False)
                    with self.assertRaises(NoAssignment) as caught:
                        first_assignment(whole, tuple(less))
                    self.assertEqual(caught.exception.refusal, found)
                    refused += 1
        self.assertGreater(refused, 50)

    def test_against_trying_all_placings(self):
        for seed in range(150):
            whole = some_tree(seed, bridges=2, devices=4, slots=3)
            rooms = some_rooms(seed + 500)
            found = refusal(whole, rooms)
            # With least windows there is room on each lower segment.
            able = [has_placing(room, wanted(whole, kind)) for room, kind in zip(rooms, ("far", "near"))]
            self.assertEqual(found is None, all(able))
            if found is not None:
                self.assertEqual(found[0], "near" if able[0] else "far")

    def test_the_far_kind_ahead_of_the_near_one(self):
        whole = tree(device("a", ("near", 64), ("far", 32)))
        self.assertEqual(refusal(whole, ((), ())), ("far", (32, 32, 0)))
        self.assertEqual(refusal(whole, (((FAR, 32),), ())), ("near", (64, 64, 0)))
        self.assertEqual(refusal(whole, ((), ((0, 64),))), ("far", (32, 32, 0)))
        self.assertIsNone(refusal(whole, (((FAR, 32),), ((0, 64),))))
        self.assertIsNone(refusal(tree(), ((), ())))

    def test_sizes_greater_than_all_addresses(self):
        devices = [device("x" + name, *[("far", 2 ** 47)] * 2) for name in "abc"]
        whole = tree(bridge("a", *devices), device("z", ("far", 16)))
        rooms = (stretch(FAR, SPACE), ())
        self.assertEqual(refusal(whole, rooms), ("far", (2 ** 50, 2 ** 50, 0)))
        for k in range(0, 60):
            value = ("far", (2 ** k, 2 ** 50 + 16 * (k == 4), sum(size for start, size in rooms[0] if size >= 2 ** k)))
            self.assertIs(refusal_holds(whole, rooms, value), 4 <= k <= 50, k)
        self.assertIs(refusal_holds(whole, rooms, ("far", (2 ** 51, 0, 0))), False)
        self.assertIs(refusal_holds(whole, rooms, ("far", (3 * 2 ** 47, 2 ** 50, 0))), False)
        with self.assertRaises(NoAssignment) as caught:
            first_assignment(whole, rooms)
        self.assertEqual(caught.exception.refusal, ("far", (2 ** 50, 2 ** 50, 0)))

    def test_what_is_no_refusal(self):
        whole = tree(device("a", ("near", 64), ("far", 32)))
        right = ("near", (64, 64, 0))
        self.assertIs(refusal_holds(whole, ((), ()), right), True)
        # One of the other kind holds, too, whichever refusal tells.
        self.assertIs(refusal_holds(whole, ((), ()), ("far", (32, 32, 0))), True)
        self.assertIs(refusal_holds(whole, ((), ()), ("far", (16, 32, 0))), True)
        for value in (("far", (64, 64, 0)), ("near", (32, 32, 0)), ("near", (64, 65, 0)), ("near", (64, 64, 1)),
                      ["near", (64, 64, 0)], ("near", [64, 64, 0]), ("near", (64, 64, False)), ("near",),
                      ("near", (64, 64, 0), 0), ("Near", (64, 64, 0)), (None, (64, 64, 0)), (1, (64, 64, 0)),
                      ("near", None), (("near",), (64, 64, 0)), (64, 64, 0), ("near", (64, 64)), ("nea", (64, 64, 0)),
                      (["near"], (64, 64, 0)), ("near", (HUGE, 64, 0)), (True, (64, 64, 0)), ("", (64, 64, 0))):
            self.assertIs(refusal_holds(whole, ((), ()), value), False)
        self.assertIs(refusal_holds(whole, (((FAR, 32),), ((0, 64),)), ("near", (64, 64, 64))), False)
        for value in OTHERS:
            for rooms in (((), ()), ROOMS):
                self.assertIs(refusal_holds(whole, rooms, value), False)
                self.assertIs(refusal_holds(whole, rooms, ("near", value)), False)
                self.assertIs(refusal_holds(whole, rooms, (value, (64, 64, 0))), False)


class Assignments(unittest.TestCase):
    def holds(self, value, whole=T, rooms=ROOMS):
        return assignment_holds(whole, rooms, value)

    def test_first_assignment(self):
        self.assertEqual(first_assignment(T, ROOMS), FIRST)
        self.assertEqual(first_assignment(tree(), ((), ())), ())
        self.assertEqual(first_assignment(tree(None, bridge("a", None), device("b")), ((), ())),
                         (("a", None, None), ("b", ())))
        whole = tree(device("a", ("near", 16), ("far", 16), ("near", 32)),
                     bridge("b", device("c", ("far", 64), ("far", 128))))
        self.assertEqual(first_assignment(whole, ROOMS),
                         (("a", ((32, 16), (FAR + 4096, 16), (0, 32))), ("b", (FAR, 4096), None),
                          ("c", ((FAR + 128, 64), (FAR, 128)))))

    def test_first_assignment_against_all(self):
        for seed in range(30):
            whole = some_tree(seed, sizes=(4096, 2048), bridges=2, devices=3, slots=3)
            rooms = tuple(room_of([(low, 16384), (low + 32768, 4096)]) for low in (FAR, 0))
            if refusal(whole, rooms) is None:
                first = first_assignment(whole, rooms)
                self.assertEqual(first, all_assignments(whole, rooms)[0])
                self.assertIs(self.holds(first, whole, rooms), True)

    def test_greater_trees(self):
        for seed in range(40):
            whole = some_tree(seed, sizes=(16, 4096, 2 ** 20, 2 ** 31), bridges=8, devices=16, slots=7)
            rooms = (stretch(FAR, SPACE), ((0, FAR),))
            before = copy.deepcopy(whole)
            if refusal(whole, rooms) is None:
                first = first_assignment(whole, rooms)
                self.assertIs(self.holds(first, whole, rooms), True)
                self.assertTrue(is_assignment(whole, rooms, first))
                self.assertEqual([row[0] for row in first], list(names_of(whole)))
            self.assertEqual(whole, before)

    def test_greater_windows_than_the_least_ones(self):
        value = (FIRST[0], ("east", None, (0, 16384)), ("net", ((8192, 4096), (128, 16))))
        self.assertIs(self.holds(value), True)
        whole = tree(bridge("a", bridge("b", device("c", ("far", 16)))))
        rooms = (((FAR, 2 ** 16),), ())
        for outer, inner, area, right in (
            ((FAR, 2 ** 16), (FAR, 4096), (FAR, 16), True), ((FAR, 2 ** 16), (FAR, 2 ** 16), (FAR + 65520, 16), True),
            ((FAR, 4096), (FAR, 8192), (FAR, 16), False), ((FAR, 2 ** 17), (FAR, 8192), (FAR, 16), False),
            ((FAR, 8192), (FAR + 4096, 4096), (FAR, 16), False), ((FAR, 2048), (FAR, 2048), (FAR, 16), False),
            ((FAR, 4096), (FAR, 2048), (FAR, 16), False), ((FAR, 4096), (FAR, 4096), (FAR + 4096, 16), False),
            ((FAR + 4096, 4096), (FAR, 4096), (FAR, 16), False), (None, (FAR, 4096), (FAR, 16), False),
            ((FAR, 4096), None, (FAR, 16), False), ((FAR, 4096), (FAR, 4096), (FAR, 32), False),
            ((FAR + 2 ** 16, 4096), (FAR + 2 ** 16, 4096), (FAR + 2 ** 16, 16), False),
        ):
            value = (("a", outer, None), ("b", inner, None), ("c", (area,)))
            self.assertIs(self.holds(value, whole, rooms), right, value)

    def test_all_ways_to_set_blocks(self):
        whole = tree(device("d", ("far", 4096)), bridge("a", device("c", ("far", 4096), ("far", 2048))))
        rooms = (stretch(FAR + 4096, FAR + 6 * 4096), ((0, 4096),))
        areas = [(FAR + 4096 * at, 4096) for at in range(7)]
        halves = [(FAR + 2048 * at, 2048) for at in range(0, 14)]
        windows = areas + [(FAR + 8192 * at, 8192) for at in range(4)] + [(FAR, 16384)]
        right = 0
        for one, window, other, half in itertools.product(areas, windows, areas, halves):
            value = (("d", (one,)), ("a", window, None), ("c", (other, half)))
            expected = is_assignment(whole, rooms, value)
            self.assertIs(self.holds(value, whole, rooms), expected, value)
            right += expected
        self.assertGreater(right, 10)

    def test_blocks_moved_and_exchanged(self):
        disk, east, net = FIRST
        self.assertIs(self.holds(FIRST), True)
        for value in ((("disk", ((FAR + 2 ** 20, 2 ** 20),)), east, net),
                      (disk, east, ("net", ((4096, 4096), (0, 16))))):
            self.assertIs(self.holds(value), True)
        for value in ((("disk", ((FAR + 2 ** 21, 2 ** 20),)), east, net),
                      (("disk", ((FAR - 2 ** 20, 2 ** 20),)), east, net),
                      (("disk", ((0, 2 ** 20),)), east, net), (disk, ("east", None, (8192, 8192)), net),
                      (disk, ("east", None, (16384, 8192)), ("net", ((16384, 4096), (20480, 16)))),
                      (disk, east, ("net", ((4096, 16), (0, 4096)))), (disk, east, ("net", ((0, 4096), (0, 16)))),
                      (disk, east, ("net", ((0, 4096), (8192, 16)))), (disk, east, ("net", ((0, 4096), (4096, 32)))),
                      (disk, ("east", (0, 8192), None), net), (disk, ("east", (FAR, 8192), (0, 8192)), net),
                      (disk, ("east", None, None), net), (disk, east, ("net", ((FAR, 4096), (FAR + 4096, 16)))),
                      (disk, east, ("net", ((2048, 4096), (8000, 16)))), (disk, ("east", None, (4096, 8192)), net),
                      (disk, ("east", None, (0, 4096)), ("net", ((0, 4096), (0, 16)))),
                      (("disk", ((FAR, 2 ** 21),)), east, net), (("disk", (None,)), east, net),
                      (disk, east, ("net", ((0, 4096), None)))):
            self.assertIs(self.holds(value), False, value)

    def test_rows_out_of_order(self):
        for rows in itertools.permutations(FIRST):
            self.assertIs(self.holds(rows), rows == FIRST)
        self.assertIs(self.holds(FIRST[:2]), False)
        self.assertIs(self.holds(FIRST + FIRST[2:]), False)
        self.assertIs(self.holds(FIRST, rooms=(ROOMS[1], ROOMS[0])), False)
        self.assertIs(self.holds((), tree(), ((), ())), True)
        self.assertIs(self.holds((), T), False)

    def test_forms_that_are_wrong(self):
        disk, east, net = FIRST
        wrong_disk = [("disk",), ("disk", ((FAR, 2 ** 20),), None), ["disk", ((FAR, 2 ** 20),)],
                      ("disk", [(FAR, 2 ** 20)]),
                      ("disk", ([FAR, 2 ** 20],)), ("disc", ((FAR, 2 ** 20),)), (None, ((FAR, 2 ** 20),)), ("disk", ()),
                      ("disk", ((FAR, 2 ** 20), (FAR, 2 ** 20))), ("disk", (FAR, 2 ** 20)), ("disk", None), None,
                      "disk",
                      ("disk", ((FAR, 2 ** 20), None)), (True, ((FAR, 2 ** 20),)), ("disk", ((str(FAR), 2 ** 20),)),
                      ("disk", ((None, 2 ** 20),)), ("disk", ((FAR, 2 ** 20, 0),)), (["disk"], ((FAR, 2 ** 20),)),
                      ("disk", (FAR, 2 ** 20), None), ("disk", {}), ((), ((FAR, 2 ** 20),)), ("east", None, (0, 8192))]
        for row in wrong_disk:
            self.assertIs(self.holds((row, east, net)), False, row)
        for row in (("east", None), ("east", (0, 8192)), ("east", None, [0, 8192]), ["east", None, (0, 8192)],
                    ("east", None, (0, 8192), None), ("east", False, (0, 8192)), ("east", (), (0, 8192)),
                    ("east", None, (False, 8192)), ("east", None, ((0, 8192),)), ("east", 0, (0, 8192)), None,
                    ("West", None, (0, 8192)), ("east", (None, (0, 8192))), ("east", None, (0, "8192")),
                    (None, None, (0, 8192))):
            self.assertIs(self.holds((disk, row, net)), False, row)
        for block in ((False, 4096), (0, 4096, 0), [0, 4096], (0,), None, 0, "0^12", (0, 4096.0), (HUGE, 4096)):
            self.assertIs(self.holds((disk, east, ("net", (block, (4096, 16))))), False)

    def test_any_value(self):
        disk, east, net = FIRST
        for value in OTHERS + [list(FIRST), {"disk": FIRST[0]}, FIRST * 40]:
            self.assertIs(self.holds(value), False)
            for rows in ((value, east, net), (disk, value, net), (disk, east, value), (("disk", value), east, net),
                         (disk, ("east", None, value), net), (("disk", (value,)), east, net),
                         ((value, disk[1]), east, net)):
                self.assertIs(self.holds(rows), False)
            if value is not None:
                self.assertIs(self.holds((disk, ("east", value, (0, 8192)), net)), False)


if __name__ == "__main__":
    unittest.main()
