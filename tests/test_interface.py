"""Point 36: names, arguments, and where each function is defined."""

import inspect
import unittest

from buswindows import bounds, covers, errors, rooms

FUNCTIONS = {
    rooms: {
        "is_size": "(value)", "is_block": "(value)", "room_error": "(value)", "room_of": "(blocks)",
        "stretch": "(low, high)", "union": "(one, other)", "common": "(one, other)", "without": "(one, other)",
        "addresses_in": "(room)", "address_at": "(room, index)", "address_index": "(room, address)",
        "capacity": "(room, size)",
    },
    covers: {"widened": "(room, limit)"},
}


class Interface(unittest.TestCase):
    def test_functions_stand_in_their_file_with_their_arguments(self):
        for module, functions in FUNCTIONS.items():
            for name, arguments in functions.items():
                with self.subTest(name=name):
                    function = getattr(module, name)
                    self.assertEqual(function.__module__, module.__name__)
                    self.assertEqual(str(inspect.signature(function)), arguments)

    def test_errors_stand_in_their_file(self):
        for name, item in vars(errors).items():
            if inspect.isclass(item):
                self.assertEqual(item.__module__, "buswindows.errors", name)

    def test_kinds_of_results(self):
        room = ((0, 16), (32, 32))
        for value, kind in (
            (rooms.is_size(16), bool), (rooms.is_size(0), bool), (rooms.is_block((0, 16)), bool),
            (rooms.is_block(()), bool), (rooms.room_error(None), tuple), (rooms.room_of([]), tuple),
            (rooms.stretch(0, 0), tuple), (rooms.union(room, ()), tuple), (rooms.common(room, ()), tuple),
            (rooms.without(room, ()), tuple), (rooms.addresses_in(room), int), (rooms.addresses_in(()), int),
            (rooms.address_at(room, 0), int), (rooms.address_index((), bounds.SPACE), int),
            (rooms.capacity((), 16), int), (covers.widened(room, 1), tuple), (covers.widened((), 1), tuple),
        ):
            self.assertIs(type(value), kind)


if __name__ == "__main__":
    unittest.main()
