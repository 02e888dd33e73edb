"""Points 2, 3 and 15 to 17: moves, how they make room, and what can stay meanwhile."""

import copy
import itertools
import random
import unittest

from buswindows.errors import BadMove, BadMoves, BusError, NoRoom, TooMany
from buswindows.moves import can_stay, make_room, makes_room_holds, moved, staying
from buswindows.placings import can_place, first_placing, reason
from buswindows.rooms import room_of, stretch, without
from plain import all_placings, apart, blocks_within
from samples import HUGE, OTHERS, small_rooms

SPACE = 2 ** 48


def some_standing(room, sizes, source):
    """Blocks of these sizes anywhere within a room, as many as fit where they come; greater ones come first."""
    blocks = []
    for size in sorted(sizes, reverse=True):
        free = blocks_within(without(room, room_of(blocks)), size)
        if free:
            blocks.append(source.choice(free))
    source.shuffle(blocks)
    return tuple(blocks)


def is_move(room, blocks, item):
    """Whether an item is a move, by the words of point 15."""
    if type(item) is not tuple or [type(part) for part in item] != [int, int] or not 0 <= item[0] < len(blocks):
        return False
    new = (item[1], blocks[item[0]][1])
    return new in blocks_within(room, new[1]) and all(apart(new, block) for block in blocks)


def has_free(room, blocks, size):
    return any(all(apart(free, block) for block in blocks) for free in blocks_within(room, size))


class Moved(unittest.TestCase):
    ROOM = ((0, 64), (128, 16), (192, 64))
    STANDING = ((0, 16), (32, 32), (128, 16))

    def refused(self, value, index, room=ROOM, standing=STANDING):
        with self.assertRaises(BadMove) as caught:
            moved(room, standing, value)
        self.assertEqual(caught.exception.index, index)
        self.assertIsInstance(caught.exception, BusError)

    def test_each_at_its_turn(self):
        self.assertEqual(moved(self.ROOM, self.STANDING, ()), self.STANDING)
        self.assertEqual(moved(self.ROOM, self.STANDING, ((0, 16),)), ((16, 16), (32, 32), (128, 16)))
        self.assertEqual(moved(self.ROOM, self.STANDING, ((0, 16), (2, 0), (0, 128), (1, 192))),
                         ((128, 16), (192, 32), (0, 16)))
        self.assertEqual(moved(self.ROOM, self.STANDING, ((1, 224), (0, 32), (1, 192), (0, 240))),
                         ((240, 16), (192, 32), (128, 16)))
        self.assertEqual(moved((), (), ()), ())

    def test_all_single_moves(self):
        starts = list(range(-16, 288, 8)) + [SPACE - 16, SPACE, HUGE, 1, 33]
        for index in range(-4, 5):
            for start in starts:
                if is_move(self.ROOM, self.STANDING, (index, start)):
                    expected = list(self.STANDING)
                    expected[index] = (start, expected[index][1])
                    self.assertEqual(moved(self.ROOM, self.STANDING, ((index, start),)), tuple(expected))
                else:
                    self.refused(((index, start),), 0)

    def test_what_is_no_move(self):
        for item in ((0, 0), (1, 32), (0, 128), (0, 32), (0, 48), (1, 0), (1, 16), (1, 128), (0, 8), (0, 24), (1, 208),
                     (0, 64), (0, 112), (0, 256), (0, -16), (3, 16), (-1, 16), (False, 16), (0, True), (True, 192),
                     [0, 16],
                     (0,), (0, 16, 0), ("0", 16), (0, "16"), (0, None), (None, 16), None, 0, "move", (), ((0, 16),), {},
                     (0, (16,)), (0, [16]), (HUGE, 16), (0, HUGE), (0, False), (1, 224.0)):
            self.refused((item,), 0)
            self.refused(((0, 16), (0, 0), item), 2)
            self.refused((item, item), 0)
        for value in OTHERS:
            self.refused(((2, 16), value), 1)

    def test_the_first_item_that_is_no_move_at_its_turn(self):
        self.refused(((0, 16), (0, 16)), 1)
        self.refused(((0, 16), (2, 16)), 1)
        self.refused(((2, 0), (0, 16)), 0)
        self.refused(((0, 16), (1, 192), (2, 192), None), 2)
        # A block's own place is on a standing block as long as it stands there.
        self.refused(((1, 192), (1, 192)), 1)

    def test_bad_moves(self):
        for value in [value for value in OTHERS if type(value) is not tuple] + [[(0, 16)], [], HUGE, {(0, 16): True}]:
            with self.assertRaises(BadMoves):
                moved(self.ROOM, self.STANDING, value)
        for value in OTHERS:
            if type(value) is tuple and value != ():
                self.refused(value, 1 if is_move(self.ROOM, self.STANDING, value[0]) else 0)

    def test_nothing_is_changed(self):
        args = (self.ROOM, self.STANDING, ((0, 16), (2, 0)))
        before = copy.deepcopy(args)
        result = moved(*args)
        self.assertEqual(args, before)
        self.assertIs(type(result), tuple)

    def test_random_ways(self):
        source = random.Random(1)
        for room in small_rooms(40, 16, seed=2):
            blocks = some_standing(room, (16, 16, 32, 16, 64), source)
            standing, moves = blocks, []
            for _ in range(12):
                item = (source.randrange(0, 6), source.randrange(0, 16) * 16)
                if is_move(room, blocks, item):
                    moves.append(item)
                    blocks = blocks[:item[0]] + ((item[1], blocks[item[0]][1]),) + blocks[item[0] + 1:]
                else:
                    self.refused(tuple(moves) + (item, None), len(moves), room, standing)
            self.assertEqual(moved(room, standing, tuple(moves)), blocks)

    def test_thousands_of_moves_in_five_thousand_blocks(self):
        room = tuple((at * 64, 16 << at % 2) for at in range(5000))
        standing = tuple((at * 64, 16) for at in range(39))
        moves = tuple((at % 39, (at + 39) * 64) for at in range(1300))
        self.assertEqual(sorted(moved(room, standing, moves)), [((at + 1300) * 64, 16) for at in range(39)])
        self.refused(moves + ((0, 319984),), 1300, room, standing)


class MakeRoom(unittest.TestCase):
    def check(self, room, standing, size):
        """Check moves against all that is promised, step by step; return how many there are, or None."""
        before = copy.deepcopy((room, standing))
        sizes = tuple(held for _, held in standing) + (size,)
        why = reason(room, sizes)
        if why is not None:
            with self.assertRaises(NoRoom) as caught:
                make_room(room, standing, size)
            self.assertEqual(caught.exception.reason, why)
            return None
        moves = make_room(room, standing, size)
        self.assertEqual((room, standing), before)
        self.assertIs(type(moves), tuple)
        self.assertEqual(make_room(room, standing, size), moves)
        self.assertIs(makes_room_holds(room, standing, size, moves), True)
        counts = [[index for index, _ in moves].count(at) for at in range(len(standing))]
        for (_, held), count in zip(standing, counts):
            doubled = 0
            while held << doubled < size:
                doubled += 1
            self.assertLessEqual(count, doubled, (room, standing, size))
        behind = moved(room, standing, moves)
        self.assertGreater(sum(held for _, held in without(room, room_of(behind)) if held >= size), 0)
        return len(moves)

    def test_small_rooms(self):
        source = random.Random(3)
        counts = []
        for room in small_rooms(500, 24, seed=4):
            many = source.randrange(1, 14)
            standing = some_standing(room, [source.choice((16, 16, 16, 32, 32, 64, 128)) for _ in range(many)], source)
            for size in (16, 32, 64, 128, 256):
                count = self.check(room, standing, size)
                if has_free(room, standing, size):
                    self.assertEqual(make_room(room, standing, size), ())
                else:
                    self.assertNotEqual(count, 0)
                counts.append(count)
        self.assertGreater(counts.count(None), 200)
        self.assertGreater(counts.count(0), 200)
        self.assertGreater(len([count for count in counts if count]), 100)
        self.assertGreater(max(count for count in counts if count), 4)

    def test_all_ways_to_stand_in_rooms_of_eight_places(self):
        for bits in range(256):
            room = room_of([(at * 16, 16) for at in range(8) if bits >> at & 1])
            for sizes in ((16,), (16, 16), (32, 16), (16, 16, 16)):
                for standing in all_placings(room, sizes):
                    if list(standing) == sorted(standing) or sizes == (32, 16):
                        for size in (32, 64):
                            self.check(room, standing, size)

    def test_a_free_block_already(self):
        self.assertEqual(make_room(((0, 64),), ((0, 16),), 32), ())
        self.assertEqual(make_room(((0, 64),), (), 64), ())
        self.assertEqual(make_room(((0, 64), (128, 16)), ((0, 16), (32, 16)), 16), ())

    def test_into_blocks_of_the_room_that_are_smaller(self):
        # All that stands in the one greater block has to go into two smaller ones.
        room = ((0, 64), (128, 32), (192, 32))
        self.check(room, ((0, 16), (16, 16), (32, 16), (48, 16)), 64)
        self.check(room, ((0, 32), (32, 16), (48, 16)), 64)
        room = tuple((at * 64, 16) for at in range(8)) + ((1024, 128),)
        self.check(room, tuple((1024 + at * 16, 16) for at in range(8)), 128)
        self.check(room[4:], tuple((1024 + at * 32, 16) for at in range(4)), 128)
        self.assertIsNone(self.check(room[5:], tuple((1024 + at * 32, 16) for at in range(4)), 128))

    def test_greater_blocks_stay(self):
        room = ((0, 256),)
        self.check(room, ((0, 64), (64, 16), (128, 64), (192, 16)), 64)
        moves = make_room(room, ((0, 64), (64, 16), (128, 64), (192, 16)), 64)
        self.assertTrue({index for index, _ in moves} <= {1, 3})

    def test_up_to_thirty_nine_blocks(self):
        source = random.Random(5)
        counts = []
        for turn in range(60):
            # A room that is nearly full: what stands has just left a block of the size, in pieces.
            size = 16 << turn % 8
            room = stretch(16 * source.randrange(1, 40), 4096 + 16 * source.randrange(1, 40))
            sizes = []
            while len(sizes) < 39 and can_place(room, tuple(sizes) + (size,)):
                sizes.append(16 << source.randrange(0, 6))
            sizes = sizes[:-1] if not can_place(room, tuple(sizes) + (size,)) else sizes
            standing = self.scattered(room, sizes, source)
            counts.append(self.check(room, standing, size))
            for other in (16, 512, 1024, 2048):
                counts.append(self.check(room, standing, other))
        self.assertGreater(max(count for count in counts if count), 10)

    def scattered(self, room, sizes, source):
        """Blocks of these sizes that stand together in the room, moved about."""
        blocks = list(first_placing(room, tuple(sizes)))
        for _ in range(200):
            at = source.randrange(len(blocks))
            free = blocks_within(without(room, room_of(blocks)), blocks[at][1])
            if free:
                blocks[at] = source.choice(free)
        source.shuffle(blocks)
        return tuple(blocks)

    def test_thirty_nine_blocks_of_the_least_size(self):
        # The room holds them and the greatest block, and nothing else; they stand far from one another.
        room = ((0, 1024), (2 ** 20, 2 ** 20))
        standing = tuple((2 ** 20 + at * 2 ** 14, 16) for at in range(39))
        count = self.check(room, standing, 2 ** 20)
        self.assertGreaterEqual(count, 39)
        room = ((0, 512), (1024, 64), (2048, 32), (4096, 16), (2 ** 47, 2 ** 47))
        standing = tuple((2 ** 47 + at * 2 ** 40, 16) for at in range(39))
        self.check(room, standing, 2 ** 47)
        self.check(room, tuple((start, 16 << at % 5) for at, (start, _) in enumerate(standing))[:30], 2 ** 46)

    def test_the_whole_space_in_pieces(self):
        standing = tuple((at * 2 ** 43, 16) for at in range(32))
        self.check(((0, SPACE),), standing, 2 ** 47)
        self.assertIsNone(self.check(((0, SPACE),), standing, SPACE))
        standing = tuple((at * 2 ** 43, 2 ** (at % 40 + 4)) for at in range(32))
        for size in (2 ** 43, 2 ** 46, 2 ** 47):
            self.check(((0, SPACE),), standing, size)

    def test_five_thousand_blocks(self):
        room = tuple((at * 2 ** 12, 16 << at % 8) for at in range(5000))
        standing = tuple((at * 2 ** 12, 16) for at in range(7, 312, 8))
        self.assertEqual(len(standing), 39)
        self.assertEqual(make_room(room, standing, 2048), ())
        room = tuple((at * 2 ** 12, 16 << at % 3) for at in range(4999)) + ((2 ** 30, 1024),)
        self.check(room, tuple((2 ** 30 + at * 16, 16) for at in range(39)), 1024)

    def test_no_room(self):
        with self.assertRaises(NoRoom) as caught:
            make_room(((0, 64),), ((0, 16), (32, 16)), 64)
        self.assertEqual(caught.exception.reason, (16, 96, 64))
        with self.assertRaises(NoRoom) as caught:
            make_room((), (), 16)
        self.assertEqual(caught.exception.reason, (16, 16, 0))
        with self.assertRaises(NoRoom) as caught:
            make_room(((0, 64), (128, 32)), ((0, 16),), 128)
        self.assertEqual(caught.exception.reason, (128, 128, 0))


class MakesRoomHolds(unittest.TestCase):
    ROOM = ((0, 64), (128, 16))
    STANDING = ((0, 16), (32, 16))

    def holds(self, value, size=32):
        return makes_room_holds(self.ROOM, self.STANDING, size, value)

    def test_longer_ways_than_needed(self):
        for value in (((1, 16),), ((0, 48),), ((1, 128),), ((1, 48), (1, 32), (1, 16)), ((0, 16), (0, 0), (1, 16)),
                      ((1, 16), (1, 128), (1, 16)), ((0, 128),), ((0, 16), (1, 0))):
            self.assertIs(self.holds(value), True, value)
        self.assertIs(self.holds(((1, 48), (1, 32)) * 300 + ((1, 16),)), True)

    def test_moves_that_leave_nothing_free(self):
        for value in ((), ((1, 48),), ((0, 16),), ((1, 16), (1, 32)), ((1, 16), (0, 48))):
            self.assertIs(self.holds(value), False, value)
        self.assertIs(self.holds(((1, 16),), 64), False)
        self.assertIs(self.holds((), 16), True)
        self.assertIs(self.holds(((1, 128),), 16), True)
        self.assertIs(self.holds(((0, 128), (1, 0)), 64), False)

    def test_what_is_no_tuple_of_moves(self):
        for value in ([(1, 16)], ([1, 16],), ((1, 16), (1, 16)), ((1, 0),), ((1, 16, 0),), ((True, 16),),
                      ((1, 16), None),
                      ((2, 16),), ((-1, 16),), ((1, 144),), ((1, "16"),), (1, 16), {"1": 16}):
            self.assertIs(self.holds(value), False)
        for value in OTHERS:
            self.assertIs(self.holds(value), False)
            self.assertIs(self.holds(value, 16), value == ())
            self.assertIs(self.holds(((1, 16), value)), False)

    def test_without_room_nothing_holds(self):
        for value in OTHERS + [((1, 16),), ()]:
            self.assertIs(makes_room_holds(self.ROOM, self.STANDING, 128, value), False)
            self.assertIs(makes_room_holds((), (), 16, value), False)


def can_stay_plainly(room, standing, size, stay):
    left = without(room, room_of([standing[index] for index in stay]))
    others = tuple(held for index, (_, held) in enumerate(standing) if index not in stay)
    return can_place(left, others + (size,))


class Staying(unittest.TestCase):
    def check(self, room, standing, size):
        subsets = [way for many in range(len(standing), -1, -1)
                   for way in itertools.combinations(range(len(standing)), many)]
        right = [way for way in subsets if can_stay_plainly(room, standing, size, way)]
        for way in subsets:
            self.assertIs(can_stay(room, standing, size, way), way in right)
        why = reason(room, tuple(held for _, held in standing) + (size,))
        if why is None:
            # The subsets are in the order of their lengths, the longest first, and the least ones first.
            self.assertEqual(staying(room, standing, size), right[0])
            return right[0]
        self.assertEqual(right, [])
        with self.assertRaises(NoRoom) as caught:
            staying(room, standing, size)
        self.assertEqual(caught.exception.reason, why)
        return None

    def test_small_rooms_against_all_subsets(self):
        source = random.Random(7)
        counts = {}
        for room in small_rooms(150, 20, seed=8):
            standing = some_standing(room, [source.choice((16, 16, 32, 64)) for _ in range(source.randrange(1, 7))],
                                     source)
            for size in (32, 64, 128):
                stay = self.check(room, standing, size)
                moving = None if stay is None else len(standing) - len(stay)
                counts[moving] = counts.get(moving, 0) + 1
        self.assertTrue({None, 0, 1, 2} <= set(counts), counts)

    def test_the_least_of_several(self):
        self.assertEqual(staying(((0, 64),), ((0, 16), (32, 16)), 32), (0,))
        self.assertEqual(staying(((0, 64),), ((32, 16), (0, 16)), 32), (0,))
        self.assertEqual(staying(((0, 64), (128, 16)), ((32, 16), (0, 16)), 32), (0,))
        self.assertEqual(staying(((0, 64),), ((0, 16), (16, 16)), 32), (0, 1))
        self.assertEqual(staying(((0, 128),), ((0, 16), (64, 16), (80, 16)), 64), (1, 2))
        self.assertEqual(staying(((0, 64),), (), 64), ())
        self.assertEqual(staying(((0, 64), (128, 64)), ((0, 32), (128, 32)), 64), (0,))

    def test_moves_move_as_many_blocks_at_least(self):
        source = random.Random(9)
        for room in small_rooms(80, 20, seed=10):
            standing = some_standing(room, [source.choice((16, 16, 32, 64)) for _ in range(6)], source)
            for size in (32, 64, 128):
                if can_place(room, tuple(held for _, held in standing) + (size,)):
                    moves = make_room(room, standing, size)
                    different = len({index for index, _ in moves})
                    self.assertGreaterEqual(different, len(standing) - len(staying(room, standing, size)))

    def test_values(self):
        room, standing = ((0, 64), (128, 64)), ((0, 16), (32, 16), (128, 16))
        for value in ((0, 1, 2), (0, 1), (0,), (1,), (2,), (1, 2), (0, 2), ()):
            self.assertIs(can_stay(room, standing, 32, value), True)
        for value in ([0], (True,), (False,), (0, True), (1, 0), (0, 0), (3,), (-1,), (0, 3), (-1, 0), ("0",), (None,),
                      ((0,),), 0, "0", None, {0: True}, (0, 1, 2, 3), (0, 1, 1), (2, 1), [0, 1], (0.0,), (HUGE,),
                      (-HUGE,),
                      ([0],), (0, None), (0, "1"), ((),), (False, 1), (0, 1, True)):
            self.assertIs(can_stay(room, standing, 32, value), False)
        for value in OTHERS:
            self.assertIs(can_stay(room, standing, 32, value), value == () or value == (0,) and type(value[0]) is int)
            self.assertIs(can_stay(room, standing, 128, value), False)
            self.assertIs(can_stay((), (), 16, value), False)
            self.assertIs(can_stay(room, standing, 32, (0, value)), False)

    def test_false_for_all_values_without_room(self):
        room, standing = ((0, 64),), ((0, 16), (32, 16))
        for value in ((), (0,), (1,), (0, 1)):
            self.assertIs(can_stay(room, standing, 64, value), False)
        self.assertIs(can_stay((), (), 16, ()), False)
        self.assertIs(can_stay(((0, 16),), (), 16, ()), True)

    def test_too_many(self):
        standing = tuple((at * 32, 16) for at in range(13))
        for room, size in ((((0, 512),), 16), (((0, 512),), 512), (((0, 1024),), 64)):
            with self.assertRaises(TooMany) as caught:
                staying(room, standing, size)
            self.assertEqual(caught.exception.limit, 12)
        self.assertEqual(staying(((0, 512),), standing[:12], 64), tuple(range(12)))
        with self.assertRaises(NoRoom):
            staying(((0, 512),), standing[:12], 512)
        # can_stay has no such limit.
        self.assertIs(can_stay(((0, 1024),), standing, 64, tuple(range(13))), True)

    def test_twelve_blocks_of_which_none_can_stay(self):
        room = tuple((at * 64, 16) for at in range(4900)) + ((2 ** 30, 256),)
        standing = tuple((2 ** 30 + at * 16, 16) for at in range(12))
        self.assertEqual(staying(room, standing, 256), ())
        self.assertEqual(staying(room, standing[:11] + ((0, 16),), 256), (11,))

    def test_blocks_of_the_room_that_stand_empty(self):
        # Those that move need room of all sizes, in blocks of the room of which only some are in use.
        room = ((0, 128),) + tuple((1024 + at * 64, 16) for at in range(30)) + ((4096, 32), (8192, 64))
        standing = ((0, 64), (64, 32), (96, 16))
        self.assertEqual(staying(room, standing, 128), ())
        self.assertEqual(self.check(room, standing, 64), (0, 1, 2))
        self.assertEqual(self.check(room[:-1], standing, 64), (0,))
        self.assertIsNone(self.check(room[:-1], standing, 128))


if __name__ == "__main__":
    unittest.main()
