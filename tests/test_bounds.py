"""Point 36: the bounds."""

import unittest

from buswindows import bounds

BOUNDS = {
    "SPACE": 281474976710656, "NEAR": 4294967296, "LEAST": 16, "GRAIN": 4096, "MAX_ROOM": 128, "MAX_SIZES": 40,
    "MAX_AREAS": 4, "MAX_PARTS": 8, "MAX_DEVICES": 16, "MAX_BRIDGES": 8, "MAX_DEPTH": 6, "SMALL": 12,
    "ONES": 4294967295, "MAX_EDITS": 40, "BATCH": 10, "MAX_FAR": 1099511627776, "MAX_NEAR": 2147483648,
}


class Bounds(unittest.TestCase):
    def test_each_bound_has_its_value(self):
        for name, value in BOUNDS.items():
            with self.subTest(name=name):
                self.assertEqual(getattr(bounds, name), value)
                self.assertIs(type(getattr(bounds, name)), int)

    def test_there_are_no_other_bounds(self):
        self.assertEqual({name for name in vars(bounds) if name.isupper()}, set(BOUNDS))


if __name__ == "__main__":
    unittest.main()
