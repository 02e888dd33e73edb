"""The examples of the document, section 1."""

import unittest

from buswindows.covers import widened
from buswindows.rooms import (
    address_at, address_index, addresses_in, capacity, common, room_error, room_of, stretch, union, without,
)


class SectionOne(unittest.TestCase):
    def test_rooms(self):
        shown = [room_of(((48, 16), (0, 16), (16, 16))), room_error(((0, 32), (32, 32))), stretch(16, 112)]
        self.assertEqual(
            repr(shown), "[((0, 32), (48, 16)), (1, 'halves'), ((16, 16), (32, 32), (64, 32), (96, 16))]")

    def test_sets(self):
        shown = [union(((0, 16),), ((16, 16),)), common(((0, 64),), ((32, 16), (128, 16))),
                 without(((0, 64),), ((16, 16),))]
        self.assertEqual(repr(shown), "[((0, 32),), ((32, 16),), ((0, 16), (32, 32))]")

    def test_addresses(self):
        R = ((0, 16), (32, 32))
        shown = [addresses_in(R), address_at(R, 20), address_index(R, 40), capacity(R, 32), widened(R, 1)]
        self.assertEqual(repr(shown), "[48, 36, 24, 32, (((0, 64),), 16)]")


if __name__ == "__main__":
    unittest.main()
