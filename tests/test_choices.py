"""Points 2, 3, 11 and 12: which devices are kept, and which sizes are chosen."""

import copy
import itertools
import random
import unittest

from buswindows.choices import best_sizes, kept, with_sizes
from buswindows.errors import NoAssignment
from buswindows.rooms import room_of
from buswindows.trees import only, part_at, path_of, with_part
from buswindows.windows import refusal
from plain import bridge, device, some_tree, tree, walked

FAR = 2 ** 32
T = tree(device("disk", ("far", 2 ** 20)),
         bridge("east", device("net", ("near", 4096), ("near", 16)), None, marks=("strict",)))
SMALLER = (((FAR, 2 ** 21),), ((0, 4096),))


def some_rooms(seed):
    source = random.Random(seed)
    return tuple(
        room_of([(low + source.randrange(12) * size, size) for size in (4096, 8192, 64, 1024)[:source.randrange(1, 5)]])
        for low in (FAR, 0))


def devices_of(whole):
    return [part[1] for _, part in walked(whole) if part[0] == "device"]


def sized(whole, offers, sizes):
    """The tree with other sizes, area by area."""
    for (name, index, _), size in zip(offers, sizes):
        path = path_of(whole, name)
        word, name, areas = part_at(whole, path)
        areas = areas[:index] + ((areas[index][0], size),) + areas[index + 1:]
        whole = with_part(whole, path, (word, name, areas))
    return whole


class Kept(unittest.TestCase):
    def test_against_going_through_the_names(self):
        shapes = set()
        for seed in range(80):
            whole = some_tree(seed, sizes=(16, 1024, 4096), bridges=3, devices=6)
            rooms = some_rooms(seed)
            before = copy.deepcopy((whole, rooms))
            names = devices_of(whole)
            random.Random(seed).shuffle(names)
            names = tuple(names[:random.Random(seed).randrange(0, 7)])
            held, refused = [], []
            for name in names:
                why = refusal(only(whole, tuple(held) + (name,)), rooms)
                if why is None:
                    held.append(name)
                else:
                    refused.append((name, why))
            self.assertEqual(kept(whole, rooms, names), (tuple(held), tuple(refused)))
            self.assertEqual((whole, rooms), before)
            shapes.add((len(held) > 1, len(refused) > 1))
        self.assertEqual(len(shapes), 4)

    def test_no_other_choice_is_better_in_this_order(self):
        for seed in range(40):
            whole = some_tree(seed, sizes=(1024, 4096), bridges=2, devices=5)
            rooms = some_rooms(seed + 90)
            names = tuple(devices_of(whole))
            ways = [way for many in range(len(names) + 1) for way in itertools.combinations(names, many)
                    if refusal(only(whole, way), rooms) is None]
            # The greatest of all choices, where an earlier name counts more than all later ones.
            best = max(ways, key=lambda way: [name in way for name in names])
            self.assertEqual(kept(whole, rooms, names)[0], best)

    def test_the_order_of_the_names(self):
        whole = tree(device("a", ("far", 64)), device("b", ("far", 32)), device("c", ("far", 32)),
                     device("d", ("near", 16)))
        rooms = (((FAR, 64),), ())
        near = ("d", ("near", (16, 16, 0)))
        self.assertEqual(kept(whole, rooms, ("a", "b", "c", "d")),
                         (("a",), (("b", ("far", (32, 96, 64))), ("c", ("far", (32, 96, 64))), near)))
        self.assertEqual(kept(whole, rooms, ("d", "c", "a", "b")),
                         (("c", "b"), (near, ("a", ("far", (32, 96, 64))))))
        self.assertEqual(kept(whole, rooms, ("b", "a")), (("b",), (("a", ("far", (32, 96, 64))),)))

    def test_devices_that_are_not_among_the_names(self):
        self.assertEqual(kept(T, SMALLER, ("disk",)), (("disk",), ()))
        self.assertEqual(kept(T, SMALLER, ("net",)), ((), (("net", ("near", (8192, 8192, 0))),)))
        self.assertEqual(kept(T, ((), ()), ()), ((), ()))
        self.assertEqual(kept(T, SMALLER, ("net", "disk")), (("disk",), (("net", ("near", (8192, 8192, 0))),)))

    def test_a_device_without_areas(self):
        self.assertEqual(kept(tree(device("a"), device("b", ("far", 16))), ((), ()), ("b", "a")),
                         (("a",), (("b", ("far", (16, 16, 0))),)))


class WithSizes(unittest.TestCase):
    def test_areas_of_the_offers(self):
        offers = (("net", 1, (16, 32)), ("disk", 0, (2 ** 20,)))
        self.assertEqual(with_sizes(T, offers, (32, 64)),
                         tree(device("disk", ("far", 64)),
                              bridge("east", device("net", ("near", 4096), ("near", 32)), None, marks=("strict",))))
        self.assertEqual(with_sizes(T, (), ()), T)
        # The size need not be one of those that are offered.
        self.assertEqual(with_sizes(T, (("net", 0, (16,)),), (2 ** 31,))[2][1][3][0],
                         device("net", ("near", 2 ** 31), ("near", 16)))

    def test_trees(self):
        for seed in range(60):
            source = random.Random(seed)
            whole = some_tree(seed)
            before = copy.deepcopy(whole)
            places = [(part[1], index) for _, part in walked(whole) if part[0] == "device"
                      for index in range(len(part[2]))]
            source.shuffle(places)
            offers = tuple((name, index, (16,)) for name, index in places[:source.randrange(0, 8)])
            sizes = tuple(source.choice((16, 64, 2 ** 31)) for _ in offers)
            self.assertEqual(with_sizes(whole, offers, sizes), sized(whole, offers, sizes))
            self.assertEqual(whole, before)


class BestSizes(unittest.TestCase):
    def test_small_trees_against_trying_all_choices(self):
        outcomes = set()
        for seed in range(150):
            source = random.Random(seed)
            whole = some_tree(seed, sizes=(16, 1024, 4096), bridges=2, devices=4)
            rooms = some_rooms(seed + 300)
            places = [(part[1], index) for _, part in walked(whole) if part[0] == "device"
                      for index in range(len(part[2]))]
            source.shuffle(places)
            allowed = [16, 512, 1024, 2048, 4096, 8192]
            offers = []
            for name, index in places[:source.randrange(0, 4)]:
                source.shuffle(allowed)
                offers.append((name, index, tuple(allowed[:source.randrange(1, 7)])))
            offers = tuple(offers)
            before = copy.deepcopy((whole, rooms, offers))
            ways = [way for way in itertools.product(*[sizes for _, _, sizes in offers])
                    if refusal(sized(whole, offers, way), rooms) is None]
            if ways:
                # product goes through the ways in the order of preference.
                self.assertEqual(best_sizes(whole, rooms, offers), ways[0])
                outcomes.add((len(offers), ways[0] == tuple(sizes[0] for _, _, sizes in offers)))
            else:
                with self.assertRaises(NoAssignment) as caught:
                    best_sizes(whole, rooms, offers)
                least = sized(whole, offers, [min(sizes) for _, _, sizes in offers])
                self.assertEqual(caught.exception.refusal, refusal(least, rooms))
                outcomes.add((len(offers), None))
            self.assertEqual((whole, rooms, offers), before)
        self.assertGreaterEqual(len(outcomes), 10, outcomes)

    def test_the_order_of_the_offers(self):
        whole = tree(device("a", ("near", 16)), device("b", ("near", 16)))
        rooms = ((), ((0, 128),))
        a, b = ("a", 0, (128, 64, 16)), ("b", 0, (128, 64, 16))
        self.assertEqual(best_sizes(whole, rooms, (a, b)), (64, 64))
        self.assertEqual(best_sizes(whole, ((), ((0, 64), (128, 16))), (a, b)), (64, 16))
        self.assertEqual(best_sizes(whole, ((), ((0, 64), (128, 16))), (b, a)), (64, 16))
        self.assertEqual(best_sizes(whole, rooms, (("a", 0, (16, 128)), b)), (16, 64))
        self.assertEqual(best_sizes(whole, rooms, (("a", 0, (32, 64, 16)), b)), (32, 64))

    def test_sizes_of_areas_without_an_offer(self):
        self.assertEqual(best_sizes(T, SMALLER, (("net", 0, (4096, 2048)),)), (2048,))
        self.assertEqual(best_sizes(T, SMALLER, (("net", 0, (2048, 16, 1024)),)), (2048,))
        self.assertEqual(best_sizes(T, (SMALLER[0], ((0, 8192),)), (("net", 0, (4096, 2048)), ("net", 1, (4096, 16)))),
                         (4096, 4096))
        # The area's own size is not taken unless it is offered.
        self.assertEqual(best_sizes(T, (SMALLER[0], ((0, 8192),)), (("net", 1, (64, 32)),)), (64,))

    def test_no_assignment(self):
        for rooms, offers, why in (
            ((SMALLER[0], ()), (("net", 0, (4096, 2048)),), ("near", (4096, 4096, 0))),
            (SMALLER, (("net", 0, (8192, 4096)),), ("near", (8192, 8192, 0))),
            (SMALLER, (), ("near", (8192, 8192, 0))), (((), ()), (("net", 0, (16,)),), ("far", (2 ** 20, 2 ** 20, 0))),
            (((), ()), (("disk", 0, (64, 16, 32)), ("net", 0, (16,))), ("far", (16, 16, 0))),
        ):
            with self.assertRaises(NoAssignment) as caught:
                best_sizes(T, rooms, offers)
            self.assertEqual(caught.exception.refusal, why)
        self.assertEqual(best_sizes(tree(), ((), ()), ()), ())

    def test_offers_for_all_areas(self):
        names = ["x" + letter for letter in "abcdefghijklmnop"]
        devices = [device(name, *[("far", 16)] * 4) for name in names]
        whole = tree(bridge("a", *devices[:8]), bridge("b", *devices[8:]))
        offers = tuple((name, index, (2 ** 40, 2 ** 20, 4096, 256, 64, 16)) for name in names for index in range(4))
        sizes = best_sizes(whole, (((FAR, 2 ** 23),), ()), offers)
        # The windows are of 2 ** 22 each: three sizes of 2 ** 20 leave 2 ** 20 to the others.
        self.assertEqual(sizes[:5], (2 ** 20, 2 ** 20, 2 ** 20, 4096, 4096))
        self.assertEqual(sizes[32:37], (2 ** 20, 2 ** 20, 2 ** 20, 4096, 4096))


if __name__ == "__main__":
    unittest.main()
