"""Points 2, 3, 5 and 6: placings, the first one, their numbers, and going through them."""

import copy
import itertools
import math
import random
import types
import unittest

from buswindows.errors import NoIndex, NoRoom
from buswindows.placings import (
    can_place, count_placings, each_placing, first_placing, placing_at, placing_holds, placing_index, reason,
)
from buswindows.rooms import room_of, stretch
from plain import all_placings, turns
from samples import HUGE, OTHERS, small_rooms

SPACE = 2 ** 48


def some_cases(count, seed):
    """Small rooms with a few sizes, most of which have a placing."""
    source = random.Random(seed)
    cases = []
    for room in small_rooms(count, 10, seed + 1):
        sizes = tuple(source.choice((16, 16, 16, 32, 64)) for _ in range(source.randrange(0, 5)))
        cases.append((room, sizes))
    return cases


def starts(placing, sizes):
    """The starts of a placing in the order of the turns."""
    return tuple(placing[index][0] for index in turns(sizes))


class PlacingHolds(unittest.TestCase):
    ROOM = ((0, 64), (128, 16), (192, 64))
    SIZES = (16, 32, 64, 16)
    PLACING = ((32, 16), (0, 32), (192, 64), (128, 16))

    def holds(self, value):
        return placing_holds(self.ROOM, self.SIZES, value)

    def changed(self, at, block):
        return self.PLACING[:at] + (block,) + self.PLACING[at + 1:]

    def test_all_ways_to_choose_blocks_in_small_rooms(self):
        blocks = [(at, size) for size in (16, 32) for at in range(0, 128, size)]
        for room in (stretch(0, 80), stretch(16, 112), ((0, 32), (64, 16)), ()):
            for sizes in ((), (16,), (16, 32), (32, 16, 16)):
                right = set(all_placings(room, sizes))
                for value in itertools.product(blocks, repeat=len(sizes)):
                    self.assertIs(placing_holds(room, sizes, value), value in right)

    def test_blocks_exchanged(self):
        self.assertIs(self.holds(self.PLACING), True)
        a, b, c, d = self.PLACING
        self.assertIs(self.holds((d, b, c, a)), True)
        for value in ((b, a, c, d), (a, c, b, d), (a, b, d, c), (c, b, a, d), (d, c, b, a)):
            self.assertIs(self.holds(value), False)

    def test_blocks_moved(self):
        self.assertIs(self.holds(self.changed(0, (48, 16))), True)
        for at, block in ((0, (16, 16)), (0, (40, 16)), (0, (24, 16)), (0, (64, 16)), (0, (112, 16)), (0, (144, 16)),
                          (0, (256, 16)), (0, (-16, 16)), (0, (176, 16)), (1, (16, 32)), (1, (32, 32)), (1, (64, 32)),
                          (2, (128, 64)), (2, (256, 64)), (2, (224, 64)), (3, (32, 16)), (3, (192, 16)), (0, (128, 16)),
                          (0, (SPACE, 16)), (0, (HUGE * 16, 16)), (2, (0, 64)), (3, (240, 16))):
            self.assertIs(self.holds(self.changed(at, block)), False, (at, block))

    def test_a_block_that_is_partly_in_the_room(self):
        self.assertIs(placing_holds(((0, 32),), (64,), ((0, 64),)), False)
        self.assertIs(placing_holds(((16, 16), (32, 16)), (32,), ((16, 32),)), False)
        self.assertIs(placing_holds(((16, 16), (32, 16)), (32,), ((0, 32),)), False)
        self.assertIs(placing_holds(((0, SPACE),), (SPACE,), ((0, SPACE),)), True)

    def test_blocks_of_another_size(self):
        for at, block in ((0, (32, 32)), (1, (0, 16)), (1, (0, 64)), (2, (192, 32)), (3, (128, 32)), (0, (32, 8)),
                          (0, (32, 0)), (0, (32, -16)), (0, (32, 17)), (3, (128, 15))):
            self.assertIs(self.holds(self.changed(at, block)), False)

    def test_too_few_and_too_many(self):
        self.assertIs(self.holds(self.PLACING[:3]), False)
        self.assertIs(self.holds(self.PLACING[1:]), False)
        self.assertIs(self.holds(self.PLACING + ((48, 16),)), False)
        self.assertIs(placing_holds(self.ROOM, (), ()), True)
        self.assertIs(placing_holds((), (), ()), True)
        self.assertIs(placing_holds(self.ROOM, (16,), ()), False)
        self.assertIs(placing_holds(self.ROOM, (), ((0, 16),)), False)

    def test_lists_bools_and_texts(self):
        for value in (list(self.PLACING), tuple(list(block) for block in self.PLACING), [list(b) for b in self.PLACING],
                      self.changed(1, [0, 32]), self.changed(1, (False, 32)), self.changed(1, ("0", 32)),
                      self.changed(1, (0, "32")), self.changed(1, (None, 32)), self.changed(1, (0, True)),
                      self.changed(1, None), self.changed(1, 0), self.changed(1, (0,)), self.changed(1, (0, 32, 0)),
                      self.changed(1, {"start": 0}), self.changed(1, "0^5"), self.changed(1, ())):
            self.assertIs(self.holds(value), False, value)

    def test_any_value(self):
        for room, sizes in ((self.ROOM, (16,)), ((), (16,)), (self.ROOM, (16, 16))):
            for value in OTHERS:
                self.assertIs(placing_holds(room, sizes, value), False)
                self.assertIs(placing_holds(room, sizes, (value,)), False)
                self.assertIs(placing_holds(room, sizes, ((0, 16), value)), False)
        for value in OTHERS:
            self.assertIs(placing_holds(self.ROOM, (), value), value == ())

    def test_forty_blocks_in_five_thousand(self):
        room = tuple((at * 64, 16 << at % 2) for at in range(5000))
        placing = tuple((at * 64, 16) for at in range(4960, 5000))
        self.assertIs(placing_holds(room, (16,) * 40, placing), True)
        self.assertIs(placing_holds(room, (16,) * 40, placing[:-1] + ((320000, 16),)), False)
        self.assertIs(placing_holds(room, (16,) * 40, placing[:-1] + ((4960 * 64 + 16, 16),)), False)
        self.assertIs(placing_holds(room, (16,) * 40, placing[:-1] + (placing[0],)), False)


class FirstPlacing(unittest.TestCase):
    def test_small_rooms_against_all_placings(self):
        for room, sizes in some_cases(120, 1):
            if can_place(room, sizes):
                placing = first_placing(room, sizes)
                self.assertEqual(placing, all_placings(room, sizes)[0])
                self.assertIs(placing_holds(room, sizes, placing), True)

    def test_turns(self):
        self.assertEqual(first_placing(((0, 64),), (16, 16, 32)), ((32, 16), (48, 16), (0, 32)))
        self.assertEqual(first_placing(((0, 64), (128, 64)), (16, 64, 32)), ((160, 16), (0, 64), (128, 32)))
        # The least start, also if a smaller block of the room would do.
        self.assertEqual(first_placing(((0, 64), (128, 16)), (16,)), ((0, 16),))
        self.assertEqual(first_placing(((0, 16), (64, 64)), (32, 16)), ((64, 32), (0, 16)))
        self.assertEqual(first_placing(((16, 16), (32, 32)), (16, 16, 16)), ((16, 16), (32, 16), (48, 16)))

    def test_no_room(self):
        for room, sizes in some_cases(120, 3) + [((), (16,)), (((0, 64),), (16,) * 5), (((0, 16), (32, 16)), (32,))]:
            if not can_place(room, sizes):
                with self.assertRaises(NoRoom) as caught:
                    first_placing(room, sizes)
                self.assertEqual(caught.exception.reason, reason(room, sizes))

    def test_none_and_all(self):
        self.assertEqual(first_placing((), ()), ())
        self.assertEqual(first_placing(((0, 16),), ()), ())
        self.assertEqual(first_placing(((0, SPACE),), (SPACE,)), ((0, SPACE),))

    def test_sizes_that_just_fill_the_room(self):
        for room in [stretch(16, 2 ** 30), stretch(2 ** 32, SPACE - 16), stretch(2 ** 20, 2 ** 40)]:
            sizes = tuple(size for start, size in room)[:40]
            self.assertEqual(first_placing(room[:40], sizes), room[:40])

    def test_greater_rooms(self):
        source = random.Random(4)
        for _ in range(40):
            room = room_of([(source.randrange(2 ** 20) * 256, 256) for _ in range(100)] + [(0, 2 ** 13)])
            sizes = tuple(16 << source.randrange(0, 5) for _ in range(36)) + (1024, 512, 2048, 1024)
            placing = first_placing(room, sizes)
            self.assertIs(placing_holds(room, sizes, placing), True)
            for place, index in enumerate(turns(sizes)):
                before = [placing[other] for other in turns(sizes)[:place]]
                free = [start for at, held in room if held >= sizes[index]
                        for start in range(at, min(at + held, placing[index][0]), sizes[index])]
                taken = sum(size // sizes[index] for start, size in before if start < placing[index][0])
                self.assertEqual(len(free), taken)

    def test_nothing_is_changed(self):
        room, sizes = ((0, 64), (128, 16)), (16, 32, 16)
        before = copy.deepcopy((room, sizes))
        first_placing(room, sizes)
        count_placings(room, sizes)
        placing_index(room, sizes, placing_at(room, sizes, 2))
        list(each_placing(room, sizes))
        self.assertEqual((room, sizes), before)


class Numbers(unittest.TestCase):
    def refused(self, room, sizes, index):
        with self.assertRaises(NoIndex) as caught:
            placing_at(room, sizes, index)
        self.assertIs(caught.exception.value, index)

    def test_small_rooms_against_all_placings(self):
        most = 0
        for room, sizes in some_cases(120, 5):
            placings = all_placings(room, sizes)
            most = max(most, len(placings))
            self.assertEqual(count_placings(room, sizes), len(placings))
            self.assertIs(type(count_placings(room, sizes)), int)
            self.assertEqual(placings, sorted(placings, key=lambda placing: starts(placing, sizes)))
            for number, placing in enumerate(placings[:200]):
                self.assertEqual(placing_at(room, sizes, number), placing)
                self.assertEqual(placing_index(room, sizes, placing), number)
            if placings:
                self.assertEqual(placing_at(room, sizes, len(placings) - 1), placings[-1])
            self.refused(room, sizes, len(placings))
            self.refused(room, sizes, -1)
        self.assertGreater(most, 200)

    def test_counts(self):
        self.assertEqual(count_placings((), ()), 1)
        self.assertEqual(count_placings((), (16,)), 0)
        self.assertEqual(count_placings(((0, 64),), (16, 16)), 12)
        self.assertEqual(count_placings(((0, 64),), (16,) * 5), 0)
        self.assertEqual(count_placings(((0, 64),), (16,) * 6 + (64, 64, 64)), 0)
        self.assertEqual(count_placings(((0, SPACE),), (16,) * 40), math.perm(2 ** 44, 40))
        self.assertEqual(count_placings(((0, 16), (32, 16)), (16, 32)), 0)
        self.assertEqual(placing_at((), (), 0), ())
        self.assertEqual(placing_index((), (), ()), 0)

    def test_equal_sizes_are_told_apart(self):
        found = [placing_at(((0, 32),), (16, 16), number) for number in (0, 1)]
        self.assertEqual(found, [((0, 16), (16, 16)), ((16, 16), (0, 16))])

    def test_numbers_of_hundreds_of_digits(self):
        source = random.Random(6)
        for sizes in ((16,) * 40, tuple(16 << at % 20 for at in range(40)), tuple(2 ** 40 >> at for at in range(37))):
            for room in (((0, SPACE),), stretch(16, SPACE - 16), stretch(48, 2 ** 47 + 2 ** 46 + 16)):
                many = count_placings(room, sizes)
                self.assertGreater(many, 10 ** 200)
                numbers = [0, 1, many - 1, many - 2, many // 2] + [source.randrange(many) for _ in range(5)]
                placings = [placing_at(room, sizes, number) for number in numbers]
                for number, placing in zip(numbers, placings):
                    self.assertIs(placing_holds(room, sizes, placing), True)
                    self.assertEqual(placing_index(room, sizes, placing), number)
                ordered = sorted(range(10), key=lambda at: numbers[at])
                self.assertEqual(ordered, sorted(range(10), key=lambda at: starts(placings[at], sizes)))
                self.assertEqual(placings[0], first_placing(room, sizes))
                for index in (many, many + 1, -1, -many, HUGE, -HUGE):
                    self.refused(room, sizes, index)

    def test_five_thousand_blocks(self):
        room = tuple((at * 64, 16 << at % 2) for at in range(5000))
        sizes = (16, 32) * 20
        many = count_placings(room, sizes)
        self.assertEqual(many, math.perm(2500, 20) * math.perm(2 * 2480 + 2500, 20))
        for number in (0, many - 1, many // 3):
            placing = placing_at(room, sizes, number)
            self.assertIs(placing_holds(room, sizes, placing), True)
            self.assertEqual(placing_index(room, sizes, placing), number)

    def test_no_index(self):
        for room, sizes in ((((0, 64),), (16, 16)), ((), ()), ((), (16,)), (((0, 16), (32, 16)), (32,)),
                            (((0, 64),), ())):
            for index in OTHERS + [True, False, HUGE, -HUGE, count_placings(room, sizes), -1]:
                self.refused(room, sizes, index)
        self.refused((), (16,), 0)
        self.refused((), (), 1)


class EachPlacing(unittest.TestCase):
    def refused(self, room, sizes, start):
        with self.assertRaises(NoIndex) as caught:
            next(each_placing(room, sizes, start=start))
        self.assertIs(caught.exception.value, start)

    def test_it_is_a_generator(self):
        self.assertIsInstance(each_placing(((0, 64),), (16,)), types.GeneratorType)
        self.assertIsInstance(each_placing((), (16,), start=0), types.GeneratorType)

    def test_small_rooms_against_all_placings(self):
        for room, sizes in some_cases(100, 7):
            placings = all_placings(room, sizes)
            self.assertEqual(list(each_placing(room, sizes)), placings)
            for start in {0, 1, 2, len(placings) // 2, len(placings) - 1, len(placings)}:
                if 0 <= start <= len(placings):
                    self.assertEqual(list(each_placing(room, sizes, start=start)), placings[start:])
            self.refused(room, sizes, len(placings) + 1)

    def test_the_first_items_however_many_there_are(self):
        for room, sizes in ((((0, SPACE),), (16,) * 40),
                            (stretch(16, SPACE - 16), tuple(16 << at % 9 for at in range(40)))):
            many = count_placings(room, sizes)
            for start in (0, many // 2, many - 300, many - 1):
                found = list(itertools.islice(each_placing(room, sizes, start=start), 100))
                self.assertEqual(len(found), min(100, many - start))
                for at in (0, len(found) // 2, len(found) - 1):
                    self.assertEqual(found[at], placing_at(room, sizes, start + at))
                self.assertEqual(len(set(found)), len(found))
            self.assertEqual(list(each_placing(room, sizes, start=many)), [])
            self.refused(room, sizes, many + 1)

    def test_items_over_which_early_turns_step(self):
        room, sizes = ((0, 128), (256, 16)), (16, 64, 16)
        many = count_placings(room, sizes)
        self.assertEqual(many, 2 * 5 * 4)
        numbers = [placing_index(room, sizes, placing) for placing in each_placing(room, sizes)]
        self.assertEqual(numbers, list(range(many)))

    def test_two_at_a_time(self):
        one = each_placing(((0, 64),), (16, 16))
        other = each_placing(((0, 64),), (16, 16), start=5)
        found = [(next(one), next(other)) for _ in range(7)]
        self.assertEqual([placing_index(((0, 64),), (16, 16), pair[0]) for pair in found], list(range(7)))
        self.assertEqual([placing_index(((0, 64),), (16, 16), pair[1]) for pair in found], list(range(5, 12)))
        self.assertEqual(list(other), [])

    def test_no_sizes_and_no_placing(self):
        self.assertEqual(list(each_placing((), ())), [()])
        self.assertEqual(list(each_placing((), (), start=1)), [])
        self.assertEqual(list(each_placing((), (16,))), [])
        self.assertEqual(list(each_placing(((0, 64),), (16,) * 5, start=0)), [])

    def test_no_index(self):
        for room, sizes in ((((0, 64),), (16, 16)), ((), ()), ((), (16,)), (((0, 64),), (128,))):
            for start in OTHERS + [True, False, HUGE, -HUGE, count_placings(room, sizes) + 1, -1]:
                self.refused(room, sizes, start)


if __name__ == "__main__":
    unittest.main()
