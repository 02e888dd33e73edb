"""Points 3 and 4: what is a size, a block, a room."""

import unittest

from buswindows.rooms import is_block, is_size, room_error
from buswindows.values import is_within
from samples import HUGE, OTHERS, blocks_anywhere, plain_room_error, small_rooms

SPACE = 2 ** 48


class Integers(unittest.TestCase):
    def test_both_ends_are_within(self):
        self.assertEqual([at for at in range(-3, 9) if is_within(at, -1, 4)], [-1, 0, 1, 2, 3, 4])
        self.assertIs(is_within(5, 5, 5), True)
        self.assertIs(is_within(0, 0, -1), False)

    def test_a_bool_is_no_integer(self):
        for value in (True, False):
            self.assertIs(is_within(value, 0, 1), False)

    def test_values_of_other_kinds_are_no_integers(self):
        for value in (None, "1", "", 1.0, (1,), [1], {}, b"1"):
            self.assertIs(is_within(value, 0, 2), False)

    def test_integers_of_any_length(self):
        self.assertIs(is_within(HUGE, 0, SPACE), False)
        self.assertIs(is_within(-HUGE, 0, SPACE), False)
        self.assertIs(is_within(HUGE, 0, HUGE), True)


class Sizes(unittest.TestCase):
    def test_the_powers_from_least_to_space(self):
        for k in range(0, 60):
            self.assertIs(is_size(2 ** k), 4 <= k <= 48, k)

    def test_the_numbers_beside_them(self):
        for k in range(4, 49):
            for value in (2 ** k - 1, 2 ** k + 1, -(2 ** k), 3 * 2 ** (k - 1)):
                self.assertIs(is_size(value), False, value)

    def test_small_and_large_numbers(self):
        for value in (0, 1, 2, 4, 8, 15, 17, 24, 2 ** 49, 2 ** 100, HUGE, -HUGE, 1 << 20000):
            self.assertIs(is_size(value), False)

    def test_other_values(self):
        for value in OTHERS:
            self.assertIs(is_size(value), False, value)


class Blocks(unittest.TestCase):
    def test_both_ends_of_each_size(self):
        for k in range(4, 49):
            size = 2 ** k
            for start in (0, SPACE - size, SPACE // 2 // size * size):
                self.assertIs(is_block((start, size)), True, (start, size))
            for start in (SPACE, -size, 1, size - 1, size + 1, size // 2, SPACE - size // 2, SPACE + size, -1):
                self.assertIs(is_block((start, size)), False, (start, size))

    def test_sizes_that_are_none(self):
        for size in (0, 1, 8, 15, 17, 24, -16, 2 ** 49, True, False, None, "16", 16.0, (16,), HUGE):
            self.assertIs(is_block((0, size)), False)

    def test_starts_that_are_none(self):
        for start in (True, False, None, "", "0", 0.0, (0,), [0], {}, HUGE, -HUGE, 10 ** 39):
            self.assertIs(is_block((start, 16)), False)

    def test_other_values(self):
        for value in OTHERS + [(0, 16, None), ((0, 16),), (16, 0), (0, 16, 0, 16)]:
            self.assertIs(is_block(value), False, value)


class Rooms(unittest.TestCase):
    def test_rooms_have_no_error(self):
        for value in (
            (), ((0, 16),), ((0, SPACE),), ((SPACE - 16, 16),), ((0, 16), (32, 16)), ((16, 16), (32, 16)),
            ((0, 32), (32, 16)), ((16, 16), (32, 32)), ((0, SPACE // 2), (SPACE // 2, SPACE // 4)),
            ((32, 32), (64, 32)), tuple([(at * 32, 16) for at in range(128)]),
        ):
            self.assertIsNone(room_error(value), value)

    def test_no_room_at_all(self):
        many = tuple([(at * 32, 16) for at in range(129)])
        for value in OTHERS + [many, list(many[:128]), (None,) * 129, 0, 16, HUGE, {"a": ((0, 16),)}, "(" * 129]:
            if not isinstance(value, tuple) or len(value) > 128:
                self.assertEqual(room_error(value), (None, "room"))

    def test_items_that_are_no_blocks(self):
        for item in OTHERS + [(0, 15), (8, 16), (SPACE, 16), (True, 16), (16, True), (False, 16), (48, 32), HUGE]:
            self.assertEqual(room_error((item,)), (0, "block"))
            self.assertEqual(room_error(((0, 16), (32, 16), item, None)), (2, "block"))

    def test_items_out_of_order(self):
        for value, index in (
            (((0, 16), (0, 16)), 1), (((16, 16), (0, 16)), 1), (((0, 32), (16, 16)), 1), (((0, 16), (0, 32)), 1),
            (((0, 16), (64, 16), (32, 16)), 2), (((0, SPACE), (0, 16)), 1), (((16, 16), (0, 32)), 1),
        ):
            self.assertEqual(room_error(value), (index, "order"), value)

    def test_halves(self):
        for k in range(4, 48):
            size = 2 ** k
            self.assertEqual(room_error(((0, size), (size, size))), (1, "halves"))
            self.assertEqual(room_error(((SPACE - 2 * size, size), (SPACE - size, size))), (1, "halves"))
        self.assertEqual(room_error(((0, 16), (32, 16), (48, 16))), (2, "halves"))

    def test_blocks_that_touch_are_not_always_halves(self):
        for k in range(4, 46):
            size = 2 ** k
            self.assertIsNone(room_error(((size, size), (2 * size, size))))
            self.assertIsNone(room_error(((size, size), (2 * size, 2 * size))))

    def test_the_first_error_is_told(self):
        for value, error in (
            (((0, 16), (16, 16), None), (1, "halves")), (((16, 16), (0, 16), (0, 15)), (1, "order")),
            (((0, 16), (8, 16), (0, 16)), (1, "block")), (((32, 16), (0, 24)), (1, "block")),
            (((0, 16), (64, 16), (32, 16), (48, 16)), (2, "order")), (((0, 16), [16, 16]), (1, "block")),
            (((64, 16), (0, 16), (16, 16)), (1, "order")),
        ):
            self.assertEqual(room_error(value), error, value)

    def test_values_near_to_rooms(self):
        seen = set()
        for seed, room in enumerate(small_rooms(120, 40, seed=3)):
            pool = [(start ^ size, size) for start, size in room] + list(room) + blocks_anywhere(3, seed)
            pool += [(16, 24), (0, True), None, [0, 16]]
            for at in range(len(room) + 1):
                for item in pool:
                    value = room[:at] + (item,) + room[at + 1:]
                    self.assertEqual(room_error(value), plain_room_error(value), value)
                    seen.add((room_error(value) or (0, None))[1])
        self.assertEqual(seen, {None, "block", "order", "halves"})


if __name__ == "__main__":
    unittest.main()
