"""Points 2, 3 and 5: whether sizes have a placing, and the reasons why not."""

import itertools
import random
import unittest

from buswindows.placings import can_place, reason, reason_holds
from buswindows.rooms import room_of, stretch, without
from plain import has_placing
from samples import HUGE, OTHERS, small_rooms

SPACE = 2 ** 48
POWERS = [2 ** k for k in range(4, 49)]


def held(room, size):
    return sum(other for start, other in room if other >= size)


def wanted(sizes, size):
    return sum(other for other in sizes if other >= size)


def plain_reason(room, sizes):
    for size in sorted(sizes, reverse=True):
        if wanted(sizes, size) > held(room, size):
            return (size, wanted(sizes, size), held(room, size))
    return None


class Reasons(unittest.TestCase):
    def check(self, room, sizes):
        found = reason(room, sizes)
        self.assertEqual(found, plain_reason(room, sizes), (room, sizes))
        self.assertIs(can_place(room, sizes), found is None)
        if found is not None:
            self.assertIs(reason_holds(room, sizes, found), True)
        return found is None

    def test_small_rooms_against_trying_all_placings(self):
        source = random.Random(1)
        answers = []
        for room in small_rooms(300, 12, seed=2):
            sizes = tuple(source.choice((16, 16, 32, 64, 128)) for _ in range(source.randrange(0, 6)))
            answers.append(self.check(room, sizes))
            self.assertEqual(answers[-1], has_placing(room, sizes), (room, sizes))
        self.assertTrue(50 < sum(answers) < 250)

    def test_all_few_sizes_in_all_rooms_of_six_places(self):
        rooms = {room_of([(at * 16, 16) for at in range(6) if bits >> at & 1]) for bits in range(64)}
        for room in rooms:
            for many in range(4):
                for sizes in itertools.combinations_with_replacement((16, 32, 64), many):
                    self.assertEqual(self.check(room, sizes), has_placing(room, sizes))

    def test_sizes_that_just_fill_the_room(self):
        for room in small_rooms(20, 60, seed=3) + [stretch(16, 2 ** 20), stretch(2 ** 32, SPACE - 16), ((0, SPACE),)]:
            sizes = tuple(size for start, size in room)[:39]
            room = room[:39]
            self.assertTrue(self.check(room, sizes))
            for turned in (sizes[::-1], tuple(sorted(sizes)), tuple(sorted(sizes, reverse=True))):
                self.assertTrue(self.check(room, turned))
            for at, size in enumerate(sizes):
                rest = sizes[:at] + sizes[at + 1:]
                self.assertTrue(self.check(room, rest))
                self.assertFalse(self.check(room, sizes + (16,)))
                if size < SPACE:
                    self.assertFalse(self.check(room, rest + (2 * size,)))
                if size > 16:
                    self.assertTrue(self.check(room, rest + (size // 2, size // 2)))
                    self.assertFalse(self.check(room, rest + (size // 2, size // 2, 16)))
                    self.assertFalse(self.check(room, rest + (size // 2, size)))

    def test_one_more_than_fits(self):
        self.assertEqual(reason(((0, 64),), (16,) * 5), (16, 80, 64))
        self.assertIsNone(reason(((0, 64),), (16,) * 4))
        self.assertEqual(reason(((0, 16), (32, 16), (64, 16)), (32,)), (32, 32, 0))
        self.assertEqual(reason(((0, SPACE),), (SPACE, 16)), (16, SPACE + 16, SPACE))
        self.assertEqual(reason(((0, SPACE),), (SPACE, SPACE)), (SPACE, 2 * SPACE, SPACE))

    def test_rooms_whose_blocks_differ_by_far(self):
        room = ((0, 16), (2 ** 40, 2 ** 40), (2 ** 47, 2 ** 47))
        self.assertIsNone(reason(room, (2 ** 39, 16, 2 ** 47, 2 ** 39)))
        great = 2 ** 47 + 2 ** 40
        self.assertEqual(reason(room, (2 ** 39, 16, 2 ** 47, 2 ** 39, 16)), (16, great + 32, great + 16))
        self.assertEqual(reason(room, (2 ** 39, 2 ** 39, 2 ** 47, 32)), (32, great + 32, great))
        self.assertEqual(reason(room, (2 ** 46, 2 ** 46, 2 ** 41)), (2 ** 41, 2 ** 47 + 2 ** 41, 2 ** 47))

    def test_the_greatest_of_the_sizes_that_is_the_size_of_one(self):
        room = ((0, 64), (128, 32))
        self.assertEqual(reason(room, (16, 64, 64, 128, 16)), (128, 128, 0))
        self.assertEqual(reason(room, (16, 64, 64, 16)), (64, 128, 64))
        self.assertEqual(reason(room, (16, 64, 32, 16)), (16, 128, 96))
        # 32 would be the size of a reason, too, but it is none of the sizes.
        self.assertEqual(reason(((0, 16), (64, 16)), (16, 64)), (64, 64, 0))
        self.assertEqual(reason(((0, 64),), (64, 16, 32)), (32, 96, 64))

    def test_none(self):
        self.assertIsNone(reason((), ()))
        self.assertIsNone(reason(((0, 16),), ()))
        self.assertEqual(reason((), (16,)), (16, 16, 0))
        self.assertIs(can_place((), ()), True)
        self.assertIs(can_place((), (16,)), False)

    def test_forty_sizes_and_five_thousand_blocks(self):
        room = tuple((at * 2 ** 20, 16 << at % 8) for at in range(5000))
        self.assertTrue(self.check(room, (2048,) * 20 + (1024, 16) * 10))
        self.assertFalse(self.check(room, (2048,) * 39 + (4096,)))
        self.assertTrue(self.check(stretch(0, 640), (16,) * 40))
        self.assertFalse(self.check(stretch(0, 624), (16,) * 40))

    def test_nothing_is_changed(self):
        room, sizes = ((0, 64), (128, 16)), (16, 128, 32)
        reason(room, sizes)
        self.assertEqual((room, sizes), (((0, 64), (128, 16)), (16, 128, 32)))


class ReasonHolds(unittest.TestCase):
    ROOM = ((0, 64), (128, 16), (256, 32))

    def test_every_power_of_two(self):
        for sizes in ((64, 64, 16), (16,), (), (128, 16), (16,) * 8, (32, 32, 32), (SPACE,), (64, 32, 16, 16)):
            for size in POWERS + [8, 4, 2, 1, 2 * SPACE, 2 ** 60]:
                value = (size, wanted(sizes, size), held(self.ROOM, size))
                right = size in POWERS and value[1] > value[2]
                self.assertIs(reason_holds(self.ROOM, sizes, value), right, (sizes, value))

    def test_a_size_that_is_none_of_the_sizes(self):
        self.assertIs(reason_holds(self.ROOM, (256, 16), (128, 256, 0)), True)
        self.assertIs(reason_holds(self.ROOM, (256, 16), (32, 256, 96)), True)
        self.assertIs(reason_holds(((0, 256),), (256, 16), (32, 256, 256)), False)

    def test_numbers_that_are_wrong(self):
        sizes = (64, 64, 16)
        right = (64, 128, 64)
        self.assertIs(reason_holds(self.ROOM, sizes, right), True)
        for value in ((64, 127, 64), (64, 129, 64), (64, 128, 63), (64, 128, 65), (63, 128, 64), (65, 128, 64),
                      (48, 128, 64), (0, 144, 112), (-64, 144, 112), (64, 64, 128), (128, 128, 64), (32, 128, 64),
                      (HUGE, HUGE, 0), (64, HUGE, 64), (64, 128, -HUGE), (16, 144, 111), (-16, 144, 112)):
            self.assertIs(reason_holds(self.ROOM, sizes, value), False, value[:1])

    def test_right_sums_that_are_no_reason(self):
        self.assertIs(reason_holds(self.ROOM, (64, 16), (64, 64, 64)), False)
        self.assertIs(reason_holds(self.ROOM, (16,), (16, 16, 112)), False)
        self.assertIs(reason_holds((), (), (16, 0, 0)), False)

    def test_forms_that_are_wrong(self):
        sizes = (128,)
        self.assertIs(reason_holds(self.ROOM, sizes, (128, 128, 0)), True)
        for value in ([128, 128, 0], (128, 128, False), (128, 128), (128, 128, 0, 0), (128, (128,), 0), ("128", 128, 0),
                      (None, 128, 0), (128, None, 0), (128, 128, None), ((128, 128, 0),), (128, "128", 0),
                      (128, 128, "0"), (128, 128, [0]), {"size": 128}, (True, 128, 0), (128, True, 0), (128, 128, ())):
            self.assertIs(reason_holds(self.ROOM, sizes, value), False, value)

    def test_any_value(self):
        for room, sizes in (((), ()), ((), (16,)), (self.ROOM, (128,)), (self.ROOM, ())):
            for value in OTHERS:
                self.assertIs(reason_holds(room, sizes, value), False)
                for other in OTHERS:
                    self.assertIs(reason_holds(room, sizes, (128, value, other)), False)

    def test_against_reason(self):
        source = random.Random(4)
        for room in small_rooms(60, 12, seed=5):
            sizes = tuple(source.choice((16, 16, 32, 64)) for _ in range(source.randrange(0, 6)))
            values = [(size, wanted(sizes, size), held(room, size)) for size in POWERS]
            holding = [value[0] for value in values if reason_holds(room, sizes, value)]
            self.assertEqual(holding == [], can_place(room, sizes))
            if holding:
                self.assertIn(reason(room, sizes)[0], holding)
            rest = without(((0, 256),), room)
            for size in holding:
                if held(rest, size) != held(room, size):
                    self.assertIs(reason_holds(room, sizes, (size, wanted(sizes, size), held(rest, size))), False)


if __name__ == "__main__":
    unittest.main()
