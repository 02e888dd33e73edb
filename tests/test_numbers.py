"""Points 2, 3 and 10: assignments with least windows, and their numbers."""

import random
import unittest

from buswindows.errors import NoIndex
from buswindows.placings import count_placings
from buswindows.rooms import room_of, stretch
from buswindows.windows import (
    assignment_at, assignment_holds, assignment_index, count_assignments, first_assignment, refusal,
)
from plain import all_assignments, bridge, device, some_tree, tree
from samples import HUGE, OTHERS

SPACE = 2 ** 48
FAR = 2 ** 32
T = tree(device("disk", ("far", 2 ** 20)),
         bridge("east", device("net", ("near", 4096), ("near", 16)), None, marks=("strict",)))
ROOMS = (((FAR, 2 ** 21),), ((0, 16384),))


def small_rooms_for(seed):
    """Rooms of a few blocks of some thousand addresses."""
    source = random.Random(seed)
    return tuple(
        room_of([(low + source.randrange(6) * size, size) for size in (4096, 4096, 1024,
                                                                       8192)[:source.randrange(1, 5)]])
        for low in (FAR, 0))


class Numbers(unittest.TestCase):
    def refused(self, whole, rooms, index):
        with self.assertRaises(NoIndex) as caught:
            assignment_at(whole, rooms, index)
        self.assertIs(caught.exception.value, index)

    def check_all(self, whole, rooms):
        found = all_assignments(whole, rooms)
        self.assertEqual(count_assignments(whole, rooms), len(found))
        self.assertEqual(refusal(whole, rooms) is None, len(found) > 0)
        for number in sorted({0, 1, 2, 3, 5, 8, len(found) // 3, len(found) // 2, len(found) - 2, len(found) - 1}):
            if 0 <= number < len(found):
                self.assertEqual(assignment_at(whole, rooms, number), found[number])
                self.assertEqual(assignment_index(whole, rooms, found[number]), number)
                self.assertIs(assignment_holds(whole, rooms, found[number]), True)
        self.refused(whole, rooms, len(found))
        self.refused(whole, rooms, -1)
        if found:
            self.assertEqual(first_assignment(whole, rooms), found[0])
        return len(found)

    def test_small_rooms_against_all_assignments(self):
        counts = []
        for seed in range(60):
            whole = some_tree(seed, sizes=(4096, 2048, 1024), bridges=2, devices=3, slots=3)
            rooms = small_rooms_for(seed)
            if count_assignments(whole, rooms) < 2000:
                counts.append(self.check_all(whole, rooms))
        self.assertGreater(len(counts), 30)
        self.assertGreater(max(counts), 500)
        self.assertIn(0, counts)

    def test_all_assignments_of_one_tree(self):
        whole = tree(bridge("a", device("x", ("near", 1024)), device("y", ("far", 2048))), device("z", ("near", 4096)))
        rooms = (stretch(FAR, FAR + 8192), stretch(4096, 16384))
        found = all_assignments(whole, rooms)
        self.assertEqual(len(found), 2 * 6 * 2 * 4)
        self.assertEqual([assignment_at(whole, rooms, number) for number in range(len(found))], found)
        self.assertEqual([assignment_index(whole, rooms, rows) for rows in found], list(range(len(found))))

    def test_segments_in_order(self):
        # A far area and a near one on each of the segments: top, a, b below a, and c.
        def pair(name):
            return device(name, ("near", 2048), ("far", 2048))

        whole = tree(bridge("a", pair("x"), bridge("b", pair("y"))), bridge("c", pair("z")), pair("w"))
        rooms = (((FAR, 32768),), ((0, 32768),))
        many = count_assignments(whole, rooms)
        top = count_placings(((0, 32768),), (8192, 4096, 2048))
        below = count_placings(((0, 8192),), (2048, 4096))
        # On the top segment, below a, below b and below c, each time for both kinds.
        self.assertEqual(many, top ** 2 * below ** 2 * 2 ** 2 * 2 ** 2)
        first = first_assignment(whole, rooms)
        for number, changed in ((1, ["z"]), (2, ["z"]), (4, ["y"]), (8, ["y"]), (16, ["x"])):
            rows = assignment_at(whole, rooms, number)
            self.assertEqual([one[0] for one, other in zip(rows, first) if one != other], changed)
        # The near kind comes behind the far one: its number counts ones.
        self.assertEqual([first[5][0], first[6][0]], ["z", "w"])
        (near, size), (far, size) = first[5][1]
        self.assertEqual(assignment_at(whole, rooms, 1)[5][1], ((near + 2048, 2048), (far, 2048)))
        self.assertEqual(assignment_at(whole, rooms, 2)[5][1], ((near, 2048), (far + 2048, 2048)))
        rows = assignment_at(whole, rooms, 16 * below ** 2)
        self.assertEqual([one[0] for one, other in zip(rows, first) if one != other], ["w"])
        self.assertEqual(rows[6][1], ((first[6][1][0][0] + 2048, 2048), first[6][1][1]))
        numbers = sorted({random.Random(1).randrange(many) for _ in range(50)} | {0, many - 1})
        for number in numbers:
            self.assertEqual(assignment_index(whole, rooms, assignment_at(whole, rooms, number)), number)

    def test_great_numbers(self):
        source = random.Random(2)
        digits = []
        for seed in range(30):
            whole = some_tree(seed, sizes=(16, 64, 4096, 2 ** 20), bridges=8, devices=16, slots=7)
            rooms = (stretch(FAR, SPACE - 16), stretch(16, FAR))
            many = count_assignments(whole, rooms)
            digits.append(len(str(many)))
            for number in (0, many - 1, many // 2, source.randrange(many)):
                rows = assignment_at(whole, rooms, number)
                self.assertIs(assignment_holds(whole, rooms, rows), True)
                self.assertEqual(assignment_index(whole, rooms, rows), number)
            self.assertEqual(assignment_at(whole, rooms, 0), first_assignment(whole, rooms))
            for index in (many, many + 1, -1, HUGE, -HUGE):
                self.refused(whole, rooms, index)
        self.assertGreater(max(digits), 100)

    def test_counts(self):
        self.assertEqual(count_assignments(T, ROOMS), 2048)
        self.assertEqual(count_assignments(tree(), ((), ())), 1)
        self.assertEqual(count_assignments(tree(bridge("a", None), device("b")), ((), ())), 1)
        self.assertEqual(count_assignments(T, ((), ())), 0)
        self.assertEqual(count_assignments(T, (ROOMS[0], ())), 0)
        self.assertEqual(count_assignments(T, ((), ROOMS[1])), 0)
        devices = [device("x" + name, *[("far", 2 ** 47)] * 2) for name in "abc"]
        self.assertEqual(count_assignments(tree(bridge("a", *devices)), (stretch(FAR, SPACE), ())), 0)
        self.assertEqual(assignment_at(tree(), ((), ()), 0), ())
        self.assertEqual(assignment_index(tree(), ((), ()), ()), 0)

    def test_no_index(self):
        for whole, rooms in ((T, ROOMS), (tree(), ((), ())), (T, ((), ())), (T, (ROOMS[0], ()))):
            for index in OTHERS + [True, False, HUGE, -HUGE, -1, count_assignments(whole, rooms)]:
                self.refused(whole, rooms, index)
        self.refused(T, ((), ()), 0)
        self.refused(tree(), ((), ()), 1)


if __name__ == "__main__":
    unittest.main()
