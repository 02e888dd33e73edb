"""Points 2 to 4: rooms made of blocks, of ends and of other rooms."""

import copy
import random
import unittest

from buswindows.errors import BusError, NoStretch
from buswindows.rooms import common, room_error, room_of, stretch, union, without
from samples import HUGE, OTHERS, blocks_anywhere, grains, room_by_joining, small_rooms

SPACE = 2 ** 48
ALL = ((0, SPACE),)


class RoomOf(unittest.TestCase):
    def test_blocks_in_any_order(self):
        source = random.Random(5)
        for room in small_rooms(150, 48, seed=1):
            blocks = [(number * 16, 16) for number in grains(room)] + list(room) * 2
            source.shuffle(blocks)
            self.assertEqual(room_of(blocks), room)
            self.assertEqual(room_of(tuple(blocks)), room)

    def test_blocks_twice_and_within_others(self):
        self.assertEqual(room_of([(0, 16), (0, 16)]), ((0, 16),))
        self.assertEqual(room_of([(0, 16), (0, 64), (32, 32), (48, 16)]), ((0, 64),))
        self.assertEqual(room_of([(128, 16), (0, 64), (16, 16)]), ((0, 64), (128, 16)))
        self.assertEqual(room_of([(64, 64), (96, 16), (128, 16)]), ((64, 64), (128, 16)))

    def test_none_one_and_all(self):
        self.assertEqual(room_of([]), ())
        self.assertEqual(room_of(()), ())
        self.assertEqual(room_of([(SPACE - 16, 16)]), ((SPACE - 16, 16),))
        self.assertEqual(room_of([(16, 16), (0, SPACE), (0, 16)]), ALL)

    def test_halves_make_greater_blocks_again_and_again(self):
        halves = [(SPACE >> k, SPACE >> k) for k in range(1, 45)]
        self.assertEqual(halves[-1], (16, 16))
        self.assertEqual(room_of(halves + [(0, 16)]), ALL)
        self.assertEqual(room_of(halves), tuple(reversed(halves)))
        self.assertEqual(room_of([(at * 16, 16) for at in range(4096)]), ((0, 65536),))

    def test_blocks_that_touch_without_being_halves(self):
        self.assertEqual(room_of([(32, 16), (16, 16)]), ((16, 16), (32, 16)))
        self.assertEqual(room_of([(48, 16), (32, 16), (16, 16)]), ((16, 16), (32, 32)))

    def test_five_thousand_blocks(self):
        apart = [(at * 32, 16) for at in range(5000)]
        self.assertEqual(room_of(apart[::-1]), tuple(apart))
        self.assertEqual(room_of([(at * 16, 16) for at in range(4999, -1, -1)]), stretch(0, 80000))
        far = blocks_anywhere(3500, seed=7)
        room = room_of(far)
        self.assertEqual(room_of(room), room)
        for start, size in far[::40]:
            self.assertEqual(common(room, ((start, size),)), ((start, size),))

    def test_the_result_is_a_room(self):
        for seed in range(60):
            blocks = blocks_anywhere(60, seed)
            room = room_of(blocks)
            self.assertIsNone(room_error(room))
            for start, size in room:
                # Each block is made of blocks that were given, and nothing else.
                within = [block for block in blocks if start <= block[0] < start + size]
                self.assertEqual(without(((start, size),), room_of(within)), ())

    def test_nothing_is_shared_with_the_argument(self):
        blocks = [(48, 16), (0, 16), (16, 16)]
        before = copy.deepcopy(blocks)
        room = room_of(blocks)
        self.assertEqual(blocks, before)
        blocks.clear()
        self.assertEqual(room, ((0, 32), (48, 16)))
        self.assertIs(type(room), tuple)


class Stretch(unittest.TestCase):
    def test_all_small_stretches(self):
        for low in range(0, 70):
            for high in range(low, 70):
                room = stretch(low * 16, high * 16)
                self.assertEqual(room, room_by_joining(range(low, high)))

    def test_the_ends_of_all_addresses(self):
        self.assertEqual(stretch(0, SPACE), ALL)
        self.assertEqual(stretch(SPACE - 16, SPACE), ((SPACE - 16, 16),))
        self.assertEqual(stretch(16, SPACE), tuple([(2 ** k, 2 ** k) for k in range(4, 48)]))
        self.assertEqual(stretch(0, SPACE - 16), tuple([(SPACE - 2 ** k, 2 ** (k - 1)) for k in range(48, 4, -1)]))
        widest = stretch(16, SPACE - 16)
        self.assertEqual([len(widest), room_error(widest), sum(widest[-1])], [86, None, SPACE - 16])

    def test_no_addresses(self):
        for end in (0, 16, 4096, SPACE - 16, SPACE):
            self.assertEqual(stretch(end, end), ())

    def test_bounds_that_are_not_valid(self):
        pairs = [(16, 0), (SPACE, 0), (-16, 0), (0, SPACE + 16), (0, 8), (8, 16), (1, 2), (15, 32), (0, 17)]
        pairs += [(SPACE + 16, SPACE + 32), (-32, -16), (0, HUGE), (-HUGE, 0), (HUGE * 16, HUGE * 32), (16, 16 * HUGE)]
        for value in OTHERS:
            pairs += [(value, 16), (0, value), (value, value), (value, None), ([], value)]
        for low, high in pairs:
            with self.assertRaises(NoStretch) as caught:
                stretch(low, high)
            self.assertIs(caught.exception.low, low)
            self.assertIs(caught.exception.high, high)
            self.assertIsInstance(caught.exception, BusError)

    def test_bools_are_no_bounds(self):
        for low, high in ((False, 16), (False, False), (0, False), (0, True), (True, 16)):
            with self.assertRaises(NoStretch):
                stretch(low, high)


class Sets(unittest.TestCase):
    def check(self, one, other):
        here, there = grains(one), grains(other)
        self.assertEqual(union(one, other), room_by_joining(here | there))
        self.assertEqual(common(one, other), room_by_joining(here & there))
        self.assertEqual(without(one, other), room_by_joining(here - there))

    def test_small_rooms(self):
        rooms = small_rooms(40, 24, seed=2)
        for one in rooms:
            for other in rooms:
                self.check(one, other)

    def test_all_rooms_of_four_places(self):
        rooms = [room_by_joining([at for at in range(4) if bits >> at & 1]) for bits in range(16)]
        for one in rooms:
            for other in rooms:
                self.check(one, other)

    def test_rooms_that_touch(self):
        self.assertEqual(union(((0, 16),), ((16, 16),)), ((0, 32),))
        self.assertEqual(union(((16, 16),), ((0, 16), (32, 32))), ((0, 64),))
        self.assertEqual(union(((32, 16),), ((16, 16),)), ((16, 16), (32, 16)))
        self.assertEqual(common(((0, 16),), ((16, 16),)), ())
        self.assertEqual(without(((0, 16),), ((16, 16),)), ((0, 16),))

    def test_rooms_that_overlap(self):
        self.assertEqual(common(((0, 64),), ((0, 32), (48, 16), (64, 64))), ((0, 32), (48, 16)))
        self.assertEqual(without(((0, 64), (96, 32)), ((32, 16), (96, 16))), ((0, 32), (48, 16), (112, 16)))

    def test_equal_and_empty_rooms(self):
        for room in small_rooms(20, 24, seed=4) + [(), ALL, ((SPACE - 16, 16),)]:
            self.assertEqual([union(room, room), common(room, room), without(room, room)], [room, room, ()])
            self.assertEqual([union(room, ()), common(room, ()), without(room, ())], [room, (), room])
            self.assertEqual([union((), room), common((), room), without((), room)], [room, (), ()])

    def test_all_addresses(self):
        for room in small_rooms(20, 24, seed=6) + [stretch(16, SPACE - 16), room_of(blocks_anywhere(40, 8))]:
            self.assertEqual([union(room, ALL), common(room, ALL), without(room, ALL)], [ALL, room, ()])
            self.assertEqual([union(ALL, room), common(ALL, room)], [ALL, room])
            rest = without(ALL, room)
            self.assertEqual([union(room, rest), common(room, rest), without(ALL, rest)], [ALL, (), room])
        self.assertEqual(without(ALL, stretch(16, SPACE - 16)), ((0, 16), (SPACE - 16, 16)))

    def test_each_result_is_a_room(self):
        for seed in range(40):
            one, other = room_of(blocks_anywhere(9, seed)), room_of(blocks_anywhere(9, seed + 100))
            both, shared, first, second = union(one, other), common(one, other), without(one, other), without(other, one)
            for room in (both, shared, first, second):
                # A difference of these may have more than MAX_ROOM blocks, but each part of it must be a room.
                for at in range(len(room)):
                    self.assertIsNone(room_error(room[at:at + 128]))
            self.assertEqual(union(union(first, shared), second), both)
            self.assertEqual(union(first, shared), one)
            self.assertEqual(common(first, second), ())

    def test_rooms_of_five_thousand_blocks(self):
        evens = room_of([(at * 32, 16) for at in range(5000)])
        odds = room_of([(at * 32 + 16, 16) for at in range(5000)])
        self.assertEqual(union(evens, odds), stretch(0, 160000))
        self.assertEqual(common(evens, odds), ())
        self.assertEqual(without(stretch(0, 160000), evens), odds)
        self.assertEqual(without(evens, ((0, 131072),)), evens[4096:])
        self.assertEqual(common(evens, ((0, 131072),)), evens[:4096])

    def test_equal_calls_have_equal_results(self):
        one, other = ((0, 64), (96, 32)), [(32, 16), (96, 16)]
        for call in (union, common, without):
            self.assertEqual(call(one, tuple(other)), call(tuple(list(one)), tuple(list(other))))


if __name__ == "__main__":
    unittest.main()
