"""Points 2 to 4: the addresses of rooms, by their number, and capacities."""

import unittest

from buswindows.errors import BusError, NoIndex
from buswindows.rooms import address_at, address_index, addresses_in, capacity, room_of, stretch
from samples import HUGE, OTHERS, blocks_anywhere, grains, small_rooms

SPACE = 2 ** 48
ALL = ((0, SPACE),)
MANY = room_of([(at * 32, 16) for at in range(5000)])
ROOMS = small_rooms(12, 12, seed=11) + [(), ((0, 16),), ((48, 16),), ((0, 16), (32, 32))]


class Addresses(unittest.TestCase):
    def test_each_address_of_small_rooms(self):
        for room in ROOMS:
            addresses = [number * 16 + at for number in sorted(grains(room)) for at in range(16)]
            self.assertEqual(addresses_in(room), len(addresses))
            self.assertEqual([address_at(room, index) for index in range(len(addresses))], addresses)
            for address in range(0, 260):
                self.assertEqual(address_index(room, address), len([at for at in addresses if at < address]))

    def test_the_ends_of_blocks(self):
        room = ((0, 16), (32, 32), (SPACE - 16, 16))
        self.assertEqual([address_at(room, at) for at in (0, 15, 16, 47, 48, 63)],
                         [0, 15, 32, 63, SPACE - 16, SPACE - 1])
        self.assertEqual([address_index(room, at) for at in (0, 1, 15, 16, 17, 31, 32, 33, 63, 64)],
                         [0, 1, 15, 16, 16, 16, 16, 17, 47, 48])
        self.assertEqual([address_index(room, at) for at in (SPACE - 17, SPACE - 16, SPACE - 15, SPACE - 1, SPACE)],
                         [48, 48, 49, 63, 64])

    def test_all_addresses(self):
        self.assertEqual(addresses_in(ALL), SPACE)
        self.assertEqual(addresses_in(()), 0)
        for at in (0, 1, 2 ** 32, SPACE - 1):
            self.assertEqual([address_at(ALL, at), address_index(ALL, at)], [at, at])
        self.assertEqual([address_index(ALL, SPACE), address_index((), SPACE), address_index((), 0)], [SPACE, 0, 0])
        rest = stretch(16, SPACE)
        self.assertEqual([addresses_in(rest), address_at(rest, SPACE - 17)], [SPACE - 16, SPACE - 1])

    def test_a_room_of_five_thousand_blocks(self):
        self.assertEqual([addresses_in(MANY), address_at(MANY, 79999)], [80000, 4999 * 32 + 15])
        for at in (0, 15, 16, 31, 40000, 79984):
            self.assertEqual(address_at(MANY, at), at // 16 * 32 + at % 16)
            self.assertEqual(address_index(MANY, address_at(MANY, at)), at)

    def test_numbers_and_addresses_belong_together(self):
        for seed in range(20):
            room = room_of(blocks_anywhere(20, seed))
            for start, size in room:
                for address in (start, start + size // 3, start + size - 1):
                    self.assertEqual(address_at(room, address_index(room, address)), address)

    def refused(self, room, index):
        with self.assertRaises(NoIndex) as caught:
            address_at(room, index)
        self.assertIs(caught.exception.value, index)
        self.assertNotIsInstance(caught.exception, BusError)

    def test_indexes_that_are_none(self):
        for room in ROOMS + [ALL, MANY]:
            many = addresses_in(room)
            for index in (True, False, -1, -many, many, many + 1, SPACE, SPACE + 1, HUGE, -HUGE, HUGE ** 2):
                self.refused(room, index)
            for value in OTHERS:
                self.refused(room, value)


class Capacity(unittest.TestCase):
    def test_the_number_of_blocks_of_each_size(self):
        for room in small_rooms(40, 64, seed=12):
            held = grains(room)
            for k in range(4, 12):
                size = 2 ** k
                blocks = [at for at in range(0, 1024, size) if held.issuperset(range(at // 16, (at + size) // 16))]
                self.assertEqual(capacity(room, size), size * len(blocks))

    def test_all_sizes(self):
        room = stretch(16, SPACE)
        for k in range(4, 49):
            self.assertEqual(capacity(ALL, 2 ** k), SPACE)
            self.assertEqual(capacity((), 2 ** k), 0)
            self.assertEqual(capacity(room, 2 ** k), SPACE - 2 ** k)

    def test_blocks_just_large_enough(self):
        room = ((0, 16), (32, 32), (128, 64))
        self.assertEqual([capacity(room, size) for size in (16, 32, 64, 128)], [112, 96, 64, 0])
        self.assertEqual([capacity(MANY, 16), capacity(MANY, 32)], [80000, 0])


if __name__ == "__main__":
    unittest.main()
