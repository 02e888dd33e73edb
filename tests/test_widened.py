"""Points 2 to 4: rooms of few blocks around other rooms."""

import functools
import random
import unittest

from buswindows.covers import widened
from buswindows.errors import BusError, NoCount
from buswindows.rooms import addresses_in, room_error, room_of, stretch, without
from samples import HUGE, OTHERS, blocks_anywhere, room_by_joining, small_rooms

SPACE = 2 ** 48


def blocks_around(room):
    """All blocks that have an address in common with a room and do not lie within one of its blocks."""
    found = set(room)
    for start, size in room:
        while size <= SPACE:
            found.add((start - start % size, size))
            size = 2 * size
    return sorted(found)


def least_extra(room, limit):
    """The least number of further addresses, by trying all ways to choose blocks."""
    around = blocks_around(room)

    @functools.cache
    def least(at, count):
        if at == len(room):
            return 0
        if count == 0:
            return None
        costs = []
        for start, size in around:
            if start <= room[at][0] < start + size:
                behind = at
                while behind < len(room) and room[behind][0] < start + size:
                    behind += 1
                # A block that begins before an earlier one ends has that one within it, and is tried there.
                if at == 0 or sum(room[at - 1]) <= start:
                    rest = least(behind, count - 1)
                    if rest is not None:
                        costs.append(size + rest)
        return min(costs, default=None)

    return least(0, limit) - addresses_in(room)


class Widened(unittest.TestCase):
    def check(self, room, limit):
        wide, extra = widened(room, limit)
        self.assertIsNone(room_error(wide))
        self.assertLessEqual(len(wide), limit)
        self.assertEqual(without(room, wide), ())
        self.assertEqual(addresses_in(wide) - addresses_in(room), extra)
        self.assertEqual(widened(room, limit), (wide, extra))
        return extra

    def test_all_rooms_of_eight_places(self):
        rooms = [room_by_joining([at for at in range(8) if bits >> at & 1]) for bits in range(256)]
        counts = [len(room) for room in rooms]
        for bits in range(256):
            for limit in range(1, 6):
                # Some room of the same eight places is always among the best ones.
                best = min(bin(more & ~bits).count("1") for more in range(256)
                           if more & bits == bits and counts[more] <= limit)
                self.assertEqual(self.check(rooms[bits], limit), 16 * best, (rooms[bits], limit))

    def test_small_rooms_by_all_ways(self):
        for room in small_rooms(60, 24, seed=21):
            for limit in range(1, len(room) + 2):
                self.assertEqual(self.check(room, limit), least_extra(room, limit), (room, limit))

    def test_rooms_of_all_addresses_by_all_ways(self):
        for seed in range(60):
            room = room_of(blocks_anywhere(5, seed))
            for limit in range(1, len(room) + 1):
                self.assertEqual(self.check(room, limit), least_extra(room, limit), (room, limit))

    def test_a_later_block_can_save_more_than_an_earlier_one(self):
        # With two blocks nothing is saved, as they are the halves of the first one; with three much is.
        room = ((0, 16), (480, 16), (512, 16), (992, 16))
        self.assertEqual([widened(room, limit)[1] for limit in (1, 2, 3, 4)], [960, 960, 480, 0])
        self.assertEqual(widened(room, 2), (((0, 1024),), 960))

    def test_rooms_with_no_more_blocks_than_the_limit(self):
        for room in small_rooms(20, 40, seed=22) + [((0, SPACE),), ((SPACE - 16, 16),), stretch(16, SPACE - 16)]:
            for limit in range(max(1, len(room)), 129):
                self.assertEqual(widened(room, limit), (room, 0))

    def test_the_empty_room(self):
        for limit in range(1, 129):
            self.assertEqual(widened((), limit), ((), 0))

    def test_one_block(self):
        self.assertEqual(widened(((0, 16), (SPACE - 16, 16)), 1), (((0, SPACE),), SPACE - 32))
        self.assertEqual(widened(((16, 16), (32, 16)), 1), (((0, 64),), 32))
        self.assertEqual(widened(((64, 16), (96, 32)), 1), (((64, 64),), 16))

    def test_all_limits_of_a_room_of_five_thousand_blocks(self):
        source = random.Random(23)
        room = room_of([(source.randrange(SPACE // 16) * 16, 16) for _ in range(5000)])
        self.assertEqual(len(room), 5000)
        extras = [self.check(room, limit) for limit in (1, 2, 3, 17, 64, 127, 128)]
        self.assertEqual(extras, sorted(extras, reverse=True))
        self.assertEqual(extras[0], SPACE - 80000)

    def test_clusters_of_five_thousand_blocks(self):
        clusters = 128
        room = room_of([(at * 2 ** 40 + turn * 32, 16) for at in range(clusters) for turn in range(39)])
        held = addresses_in(room)
        self.assertEqual([len(room), held], [clusters * 39, clusters * 39 * 16])
        self.assertEqual(self.check(room, 128), clusters * 2048 - held)
        self.assertEqual(self.check(room, 127), 126 * 2048 + 2 ** 41 - held)
        # Four clusters in one block save three blocks, of which one makes another cluster's 2048 into 1024 and 256.
        self.assertEqual(self.check(room, 126), 124 * 2048 - 768 + 2 ** 42 - held)
        # One block for half of the clusters, and one for two of the others.
        self.assertEqual(self.check(room, 64), 2 ** 46 + 2 ** 41 + 62 * 2048 - held)

    def test_some_gaps_of_a_long_room(self):
        # 5000 blocks with gaps of one place, and of a thousand places at some of them.
        room = tuple([(at * 32 + at // 1024 * 2 ** 20, 16) for at in range(5000)])
        self.assertIsNone(room_error(room[:128]))
        # Four whole runs of 1024 blocks, each within 32768, and one of 904 blocks: 512, 256, 128 and 8.
        held = 5000 * 16
        self.assertEqual(self.check(room, 8), 4 * 32768 + 904 * 32 - held)
        self.assertEqual(self.check(room, 7), 4 * 32768 + (512 + 256 + 256) * 32 - held)

    def refused(self, room, limit):
        with self.assertRaises(NoCount) as caught:
            widened(room, limit)
        self.assertIs(caught.exception.value, limit)
        self.assertIsInstance(caught.exception, BusError)

    def test_limits_that_are_not_valid(self):
        for room in ((), ((0, 16),), ((0, 16), (32, 16))):
            for limit in (0, 129, 130, SPACE, HUGE, -HUGE, -128, True, False):
                self.refused(room, limit)
            for value in OTHERS:
                self.refused(room, value)


if __name__ == "__main__":
    unittest.main()
