"""Points 2, 3, 13 and 14: settings, and the ways of requests."""

import copy
import random
import unittest

from buswindows.errors import BusError, NoAddress, NoIndex, NoName
from buswindows.requests import are_settings, clashes, follow, reached
from buswindows.rooms import common, room_of, stretch
from buswindows.windows import assignment_at, count_assignments, first_assignment
from plain import bridge, device, edges, some_settings, some_tree, tree, walked, way
from samples import HUGE, OTHERS

SPACE = 2 ** 48
FAR = 2 ** 32
T = tree(device("disk", ("far", 2 ** 20)),
         bridge("east", device("net", ("near", 4096), ("near", 16)), None, marks=("strict",)))
ROOMS = (((FAR, 2 ** 21),), ((0, 16384),))
A = first_assignment(T, ROOMS)

# Two bridges beside one another, one of them strict, with two devices each, and a device on the top segment.
W = tree(
    bridge("loose", device("a", ("near", 16), ("near", 64)), device("b", ("near", 16))),
    None,
    bridge("tight", device("c", ("near", 16)), None, device("d", ("near", 16)), marks=("strict",)),
    device("e", ("far", 16), ("near", 32)),
)


def rows(loose, a, b, tight, c, d, e):
    """Settings of W: of the bridges their near windows, of the devices their blocks."""
    return (("loose", None, loose), ("a", a), ("b", b), ("tight", None, tight), ("c", c), ("d", d), ("e", e))


APART = rows((4096, 4096), ((4096, 16), (4160, 64)), ((4112, 16),), (8192, 4096), ((8192, 16),), ((8208, 16),),
             ((FAR, 16), (64, 32)))


def cases():
    """Trees with settings that overlap in all ways."""
    for seed in range(120):
        whole = some_tree(seed, sizes=(16, 32, 64), bridges=4, devices=6, slots=4)
        yield whole, some_settings(whole, seed, places=[2, 4, 8, 16][seed % 4])


class Settings(unittest.TestCase):
    def yes(self, whole, value):
        self.assertIs(are_settings(whole, value), True, value)

    def no(self, whole, value):
        self.assertIs(are_settings(whole, value), False)

    def test_assignments(self):
        for whole, rooms in ((T, ROOMS), (tree(), ((), ())), (W, (stretch(FAR, FAR + 64), stretch(0, 2 ** 16)))):
            many = count_assignments(whole, rooms)
            for number in (0, many // 2, many - 1):
                self.yes(whole, assignment_at(whole, rooms, number))

    def test_blocks_that_overlap_and_none(self):
        for whole, value in cases():
            self.yes(whole, value)
        nothing = tuple((row[0], (None,) * len(row[1])) if len(row) == 2 else (row[0], None, None) for row in APART)
        self.yes(W, nothing)
        self.yes(W, APART)
        for at in range(7):
            self.yes(W, APART[:at] + nothing[at:])
        self.yes(W, rows((0, 16), ((0, 16), (0, 64)), ((0, 16),), (0, FAR), ((0, 16),), ((FAR - 16, 16),),
                         (None, (0, 32))))

    def changed(self, at, row):
        return APART[:at] + (row,) + APART[at + 1:]

    def test_windows(self):
        for block in ((0, 16), (0, 4096), (0, FAR), (FAR // 2, FAR // 2), None, (FAR - 16, 16)):
            self.yes(W, self.changed(0, ("loose", None, block)))
            if block is not None:
                self.no(W, self.changed(0, ("loose", block, None)))
        # A window that is not needed may be set, too.
        for block in ((FAR, 16), (FAR, FAR), (2 ** 47, 2 ** 47), (SPACE - 16, 16), None):
            self.yes(W, self.changed(0, ("loose", block, None)))
            if block is not None:
                self.no(W, self.changed(0, ("loose", None, block)))
        for block in ((0, 2 ** 33), (0, SPACE), (0, 2 ** 47), (16, 32), (0, 8), (SPACE, 16), (-16, 16), (0, 0),
                      (FAR, 2 ** 33),
                      (FAR + 8, 16), (0, 48)):
            self.no(W, self.changed(0, ("loose", None, block)))
            self.no(W, self.changed(0, ("loose", block, None)))

    def test_areas(self):
        for block in ((0, 32), (FAR - 32, 32), None, (4096, 32)):
            self.yes(W, self.changed(6, ("e", ((FAR, 16), block))))
        for block in ((0, 16), (0, 64), (FAR, 32), (16, 32), (SPACE - 32, 32), (FAR - 16, 32), (0, FAR)):
            self.no(W, self.changed(6, ("e", ((FAR, 16), block))))
        for block in ((FAR, 16), (SPACE - 16, 16), None, (FAR + 16, 16)):
            self.yes(W, self.changed(6, ("e", (block, None))))
        for block in ((0, 16), (FAR - 16, 16), (FAR, 32), (FAR + 8, 16), (SPACE, 16), (FAR, 8)):
            self.no(W, self.changed(6, ("e", (block, None))))

    def test_rows(self):
        self.no(W, APART[:6])
        self.no(W, APART[1:])
        self.no(W, APART + APART[6:])
        self.no(W, ())
        for at in range(6):
            self.no(W, APART[:at] + (APART[at + 1], APART[at]) + APART[at + 2:])
        self.no(T, APART)
        for row in (("a", ((4096, 16),)), ("a", ((4096, 16), (4160, 64), None)), ("a", ()), ("a",), ("a", None),
                    ("a", [(4096, 16), (4160, 64)]), ["a", ((4096, 16), (4160, 64))], ("a", ([4096, 16], (4160, 64))),
                    ("a", ((4096, 16), (4160, 64)), None), ("x", ((4096, 16), (4160, 64))), None, "a",
                    ("a", (4096, 16), (4160, 64)), ("a", ((4096, 16), False)), ("a", ((4096, 16), ())),
                    ("a", ((4096, 16), 0)), ("a", ((4096, 16), (False, 64))), (None, ((4096, 16), (4160, 64)))):
            self.no(W, self.changed(1, row))
        for row in (("loose", None), ("loose", None, None, None), ["loose", None, None], ("x", None, None),
                    ("loose", (None, None)), ("loose", False, None), ("loose", None, False), ("loose", (), None),
                    ("loose", None, [4096, 4096]), ("loose", None, ((4096, 4096),)), ("loose", None, 4096), None):
            self.no(W, self.changed(0, row))

    def test_any_value(self):
        self.yes(tree(), ())
        for value in OTHERS + [list(APART), {"a": APART}, HUGE]:
            self.assertIs(are_settings(tree(), value), value == ())
            self.no(W, value)
            for at in range(7):
                self.no(W, self.changed(at, value))
            self.no(W, self.changed(1, (value, APART[1][1])))
            self.no(W, self.changed(1, ("a", (value, value, value))))
            self.assertIs(are_settings(W, self.changed(1, ("a", value))), value == ((0, 16), None))
            if value is not None:
                self.no(W, self.changed(1, ("a", (value, None))))
                self.no(W, self.changed(0, ("loose", value, None)))
                self.no(W, self.changed(0, ("loose", None, value)))


class Follow(unittest.TestCase):
    def check(self, settings, origin, address, steps):
        self.assertTrue(are_settings(W, settings))
        self.assertEqual(follow(W, settings, origin, address), steps)
        self.assertEqual(way(W, settings, origin, address), steps)

    def test_from_the_top(self):
        self.check(APART, None, 4100, (("down", "loose"), ("hit", "a", 0)))
        self.check(APART, None, 4223, (("down", "loose"), ("hit", "a", 1)))
        self.check(APART, None, 4224, (("down", "loose"), ("lost", (0,))))
        self.check(APART, None, 8207, (("down", "tight"), ("hit", "c", 0)))
        self.check(APART, None, 8208, (("down", "tight"), ("hit", "d", 0)))
        self.check(APART, None, FAR, (("hit", "e", 0),))
        self.check(APART, None, 95, (("hit", "e", 1),))
        self.check(APART, None, 96, (("lost", ()),))
        self.check(APART, None, 63, (("lost", ()),))
        self.check(APART, None, SPACE - 1, (("lost", ()),))

    def test_from_devices(self):
        self.check(APART, "a", 4112, (("hit", "b", 0),))
        self.check(APART, "b", 4096, (("hit", "a", 0),))
        self.check(APART, "b", 8192, (("up", "loose"), ("down", "tight"), ("hit", "c", 0)))
        self.check(APART, "b", 64, (("up", "loose"), ("hit", "e", 1)))
        self.check(APART, "e", 4112, (("down", "loose"), ("hit", "b", 0)))
        self.check(APART, "e", 12000, (("down", "tight"), ("lost", (2,))))
        self.check(APART, "a", 12288, (("up", "loose"), ("top",)))
        self.check(APART, "e", 0, (("top",),))

    def test_nobody_asks_the_part_from_which_a_request_came(self):
        # Its own address: the device itself is not asked, nor the bridge by which it climbed.
        self.check(APART, "a", 4096, (("up", "loose"), ("top",)))
        self.check(APART, "e", FAR, (("top",),))
        self.check(APART, "c", 8192, (("up", "tight"), ("top",)))
        # In a clash it is not told, either.
        both = rows((4096, 4096), ((4096, 16), (4096, 64)), ((4096, 16),), (4096, 4096), ((4096, 16),), ((4096, 16),),
                    (None, (4096, 32)))
        self.check(both, None, 4096, (("clash", (), (0, 2, 3)),))
        self.check(both, "a", 4096, (("hit", "b", 0),))
        self.check(both, "a", 4112, (("up", "loose"), ("clash", (), (2, 3))))
        self.check(both, "c", 4096, (("up", "tight"), ("clash", (), (0, 3))))
        self.check(both, "e", 4096, (("clash", (), (0, 2)),))
        self.check(both, "e", 4160, (("clash", (), (0, 2)),))

    def test_strict_segments(self):
        # d and c stand on a strict segment: they do not hit one another.
        self.check(APART, "c", 8208, (("up", "tight"), ("top",)))
        self.check(APART, "c", 4112, (("up", "tight"), ("down", "loose"), ("hit", "b", 0)))
        strict = W[:1] + (("strict",),) + W[2:]
        self.assertEqual(follow(strict, APART, "c", 4112), (("up", "tight"), ("top",)))
        self.assertEqual(follow(strict, APART, "e", 4112), (("top",),))
        self.assertEqual(follow(strict, APART, "a", 4112), (("hit", "b", 0),))
        self.assertEqual(follow(strict, APART, None, 8208), (("down", "tight"), ("hit", "d", 0)))
        # The mark "hiding" changes nothing.
        hiding = tree(bridge("x", device("a", ("near", 16)), device("b", ("near", 16)), marks=("hiding",)))
        rows_hiding = (("x", None, (0, 4096)), ("a", ((0, 16),)), ("b", ((16, 16),)))
        self.assertEqual(follow(hiding, rows_hiding, "a", 16), (("hit", "b", 0),))
        both = tree(bridge("x", *hiding[2][0][3], marks=("hiding", "strict")))
        self.assertEqual(follow(both, rows_hiding, "a", 16), (("up", "x"), ("top",)))

    def test_an_address_in_two_areas_of_one_device(self):
        settings = rows((4096, 4096), ((4096, 16), (4096, 64)), (None,), None, (None,), (None,), (None, None))
        self.check(settings, None, 4096, (("down", "loose"), ("hit", "a", 0)))
        self.check(settings, None, 4112, (("down", "loose"), ("hit", "a", 1)))
        settings = rows((4096, 4096), (None, (4096, 64)), (None,), None, (None,), (None,), (None, None))
        self.check(settings, None, 4096, (("down", "loose"), ("hit", "a", 1)))

    def test_clashes_below(self):
        settings = rows((4096, 4096), ((4096, 16), None), ((4096, 16),), (8192, 4096), ((8192, 16),), ((8192, 16),),
                        (None, None))
        self.check(settings, None, 4096, (("down", "loose"), ("clash", (0,), (0, 1))))
        self.check(settings, None, 8192, (("down", "tight"), ("clash", (2,), (0, 2))))
        self.check(settings, "c", 4096, (("up", "tight"), ("down", "loose"), ("clash", (0,), (0, 1))))

    def test_all_ways_in_trees(self):
        words = {}
        for whole, settings in cases():
            before = copy.deepcopy((whole, settings))
            origins = [None] + [part[1] for _, part in walked(whole) if part[0] == "device"]
            for address in edges(settings):
                for origin in origins:
                    steps = follow(whole, settings, origin, address)
                    self.assertEqual(steps, way(whole, settings, origin, address))
                    words[steps[-1][0], len(steps)] = True
            self.assertEqual((whole, settings), before)
        self.assertEqual({word for word, _ in words}, {"hit", "top", "lost", "clash"})
        self.assertGreater(max(many for _, many in words), 4)

    def test_in_an_assignment(self):
        for seed in range(20):
            whole = some_tree(seed, bridges=5, devices=8)
            settings = first_assignment(whole, (stretch(FAR, 2 ** 40), stretch(0, FAR)))
            origins = [None] + [part[1] for _, part in walked(whole) if part[0] == "device"]
            for address in edges(settings):
                hits = set()
                for origin in origins:
                    steps = follow(whole, settings, origin, address)
                    self.assertNotEqual(steps[-1][0], "clash")
                    hits |= {steps[-1]} if steps[-1][0] == "hit" else set()
                self.assertLessEqual(len(hits), 1)

    def test_no_name(self):
        for origin in [value for value in OTHERS if value is not None] + ["east", "", "dis", "top", HUGE, ("disk",)]:
            for address in (0, -1, None):
                with self.assertRaises(NoName) as caught:
                    follow(T, A, origin, address)
                self.assertIs(caught.exception.value, origin)
                self.assertNotIsInstance(caught.exception, BusError)

    def test_no_address(self):
        for address in OTHERS + [SPACE, -1, HUGE, -HUGE, True, False, "0"]:
            for origin in (None, "disk", "net"):
                with self.assertRaises(NoAddress) as caught:
                    follow(T, A, origin, address)
                self.assertIs(caught.exception.value, address)
                self.assertNotIsInstance(caught.exception, BusError)
        self.assertEqual(follow(T, A, "disk", SPACE - 1), (("top",),))


class Clashes(unittest.TestCase):
    def test_assignments_have_none(self):
        self.assertEqual(clashes(T, A), ())
        self.assertEqual(clashes(W, APART), ())
        self.assertEqual(clashes(tree(), ()), ())
        for seed in range(20):
            whole = some_tree(seed, bridges=5, devices=8)
            self.assertEqual(clashes(whole, first_assignment(whole, (stretch(FAR, 2 ** 40), stretch(0, FAR)))), ())

    def test_pairs_of_slots(self):
        both = rows((4096, 4096), ((4096, 16), (4096, 64)), ((4096, 16),), (4096, 8192), ((0, 16),), ((0, 16),),
                    ((FAR, 16), (4096, 32)))
        both = both[:3] + (("tight", (FAR, 4096), (4096, 4096)),) + both[4:]
        self.assertEqual(clashes(W, both), (
            ((), 0, 2, ((4096, 4096),)), ((), 0, 3, ((4096, 32),)), ((), 2, 3, ((4096, 32), (FAR, 16))),
            ((0,), 0, 1, ((4096, 16),)), ((2,), 0, 2, ((0, 16),))))

    def test_blocks_of_one_part_do_not_clash(self):
        settings = rows(None, ((0, 16), (0, 64)), (None,), None, (None,), (None,), (None, None))
        self.assertEqual(clashes(W, settings), ())

    def test_trees(self):
        many = 0
        for whole, settings in cases():
            before = copy.deepcopy((whole, settings))
            by_path = dict(zip([path for path, _ in walked(whole)], settings))
            expected = []
            for path in by_path:
                for other in by_path:
                    if path[:-1] == other[:-1] and path < other:
                        claims = [room_of([block for block in (row[1] if len(row) == 2 else row[1:]) if block])
                                  for row in (by_path[path], by_path[other])]
                        if common(*claims):
                            expected.append((path[:-1], path[-1], other[-1], common(*claims)))
            self.assertEqual(clashes(whole, settings), tuple(sorted(expected)))
            self.assertEqual((whole, settings), before)
            many += len(expected)
        self.assertGreater(many, 40)


class Reached(unittest.TestCase):
    def check(self, settings, name, index, room):
        self.assertEqual(reached(W, settings, name, index), room)

    def test_in_an_assignment(self):
        self.check(APART, "a", 0, ((4096, 16),))
        self.check(APART, "a", 1, ((4160, 64),))
        self.check(APART, "e", 0, ((FAR, 16),))
        for seed in range(20):
            whole = some_tree(seed, bridges=5, devices=8)
            settings = first_assignment(whole, (stretch(FAR, 2 ** 40), stretch(0, FAR)))
            for row in settings:
                for index, block in enumerate(row[1] if len(row) == 2 else ()):
                    self.assertEqual(reached(whole, settings, row[0], index), (block,))

    def test_windows_that_cut_an_area(self):
        settings = rows((64, 32), (None, (64, 64)), (None,), (0, 4096), ((0, 16),), (None,), (None, None))
        self.check(settings, "a", 1, ())
        settings = rows((64, 32), (None, (64, 64)), (None,), (128, 16), ((128, 16),), (None,), (None, None))
        self.check(settings, "a", 1, ((64, 32),))
        self.check(settings, "c", 0, ((128, 16),))
        settings = rows(None, (None, (64, 64)), (None,), (16, 16), ((0, 16),), ((16, 16),), (None, None))
        self.check(settings, "a", 1, ())
        self.check(settings, "c", 0, ())
        self.check(settings, "d", 0, ((16, 16),))

    def test_clashes_that_take_addresses_away(self):
        settings = rows((0, 4096), ((64, 16), (0, 64)), ((16, 16),), None, (None,), (None,), (None, (32, 32)))
        self.check(settings, "a", 1, ((0, 16),))
        self.check(settings, "a", 0, ((64, 16),))
        self.check(settings, "b", 0, ())
        self.check(settings, "e", 1, ())
        settings = rows((32, 16), (None, (0, 64)), (None,), None, (None,), (None,), (None, (32, 32)))
        self.check(settings, "e", 1, ((48, 16),))

    def test_two_areas_of_one_device(self):
        settings = rows((0, 4096), ((16, 16), (0, 64)), (None,), None, (None,), (None,), (None, None))
        self.check(settings, "a", 0, ((16, 16),))
        self.check(settings, "a", 1, ((0, 16), (32, 32)))
        self.check(settings, "b", 0, ())

    def test_against_follow(self):
        found = 0
        for whole, settings in cases():
            before = copy.deepcopy((whole, settings))
            ways = {address: follow(whole, settings, None, address)[-1] for address in edges(settings)}
            for row in settings:
                for index in range(len(row[1]) if len(row) == 2 else 0):
                    room = reached(whole, settings, row[0], index)
                    for address, last in ways.items():
                        within = any(start <= address < start + size for start, size in room)
                        self.assertEqual(within, last == ("hit", row[0], index))
                    # All addresses at which a way begins to hit or ends are among the edges.
                    found += len(room)
            self.assertEqual((whole, settings), before)
        self.assertGreater(found, 100)

    def test_no_name_then_no_index(self):
        for name in OTHERS + ["loose", "tight", "", "f", ("a",), HUGE]:
            for index in (0, 9, None):
                with self.assertRaises(NoName) as caught:
                    reached(W, APART, name, index)
                self.assertIs(caught.exception.value, name)
        for index in OTHERS + [2, 3, -1, HUGE, -HUGE, True, False, "0"]:
            with self.assertRaises(NoIndex) as caught:
                reached(W, APART, "a", index)
            self.assertIs(caught.exception.value, index)
        whole = tree(device("x"))
        with self.assertRaises(NoIndex):
            reached(whole, (("x", ()),), "x", 0)


if __name__ == "__main__":
    unittest.main()
