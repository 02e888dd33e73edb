"""Point 36: the errors, their fields and their bases."""

import inspect
import unittest

from buswindows import errors
from buswindows.errors import BusError
from samples import HUGE

BUS_ERRORS = {
    "NoStretch": ("low", "high"), "NoCount": ("value",), "NoRoom": ("reason",), "BadTree": ("error",),
    "NoAssignment": ("refusal",), "BadMoves": (), "BadMove": ("index",), "TooMany": ("limit",), "NoWay": (),
    "Full": ("value",), "Nothing": (), "BadRules": (), "Held": ("value",), "BadRooms": (), "Taken": ("path",),
    "Empty": ("path",), "BadMarks": ("value",), "NoBlock": ("value",), "NoSpace": ("kind", "reason"),
    "Occupied": ("block",), "NoWindow": ("path",), "TooManyEdits": (), "NothingToUndo": (), "Busy": (),
    "BadEdits": (), "BadEdit": ("index",), "Rejected": ("index",), "BadText": ("index",),
}
LOOKUP_ERRORS = (
    "NoIndex", "NoPart", "NoName", "NoAddress", "NoStation", "NoChannel", "NoDirection", "NoKind", "NoPlace",
    "NoSize", "NoVersion",
)
ALL = {**BUS_ERRORS, **{name: ("value",) for name in LOOKUP_ERRORS}}


class Errors(unittest.TestCase):
    def test_the_base_derives_from_value_error(self):
        self.assertEqual(BusError.__bases__, (ValueError,))

    def test_each_error_has_its_one_base(self):
        for name in ALL:
            with self.subTest(name=name):
                base = BusError if name in BUS_ERRORS else LookupError
                self.assertEqual(getattr(errors, name).__bases__, (base,))

    def test_no_error_derives_from_another_one(self):
        for name in ALL:
            for other in ALL:
                if name != other:
                    self.assertFalse(issubclass(getattr(errors, name), getattr(errors, other)), (name, other))

    def test_lookup_errors_are_no_value_errors(self):
        for name in LOOKUP_ERRORS:
            self.assertFalse(issubclass(getattr(errors, name), ValueError), name)

    def test_there_are_no_other_errors(self):
        found = {name for name, item in vars(errors).items() if inspect.isclass(item)}
        self.assertEqual(found, {"BusError", *ALL})

    def test_the_fields_are_the_very_objects_that_were_passed(self):
        for name, fields in ALL.items():
            for make in (list, dict, object, lambda: ["a", {"b": ()}], lambda: (True, [None]), lambda: 10 ** 50):
                with self.subTest(name=name):
                    passed = [make() for _ in fields]
                    error = getattr(errors, name)(*passed)
                    for field, value in zip(fields, passed):
                        self.assertIs(getattr(error, field), value)

    def test_the_fields_have_their_names_and_their_order(self):
        for name, fields in ALL.items():
            with self.subTest(name=name):
                self.assertEqual(tuple(inspect.signature(getattr(errors, name)).parameters), fields)
                error = getattr(errors, name)(**{field: field for field in fields})
                self.assertEqual(vars(error), {field: field for field in fields})

    def test_another_number_of_fields_is_no_error_of_this_kind(self):
        for name, fields in ALL.items():
            with self.subTest(name=name):
                with self.assertRaises(TypeError):
                    getattr(errors, name)(*fields, None)
                if fields:
                    with self.assertRaises(TypeError):
                        getattr(errors, name)(*fields[1:])

    def test_an_error_can_be_shown_whatever_its_fields_are(self):
        for name, fields in ALL.items():
            error = getattr(errors, name)(*[HUGE for _ in fields])
            self.assertTrue(str(error) and repr(error), name)


if __name__ == "__main__":
    unittest.main()
