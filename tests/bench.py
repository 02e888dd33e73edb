"""What the tests of machines have in common."""

import unittest

from buswindows.errors import BusError
from buswindows.machines import Machine
from buswindows.rooms import stretch
from plain import bridge, device, tree

FAR = 2 ** 32
T = tree(device("disk", ("far", 2 ** 20)),
         bridge("east", device("net", ("near", 4096), ("near", 16)), None, marks=("strict",)))
ROOMS = (((FAR, 2 ** 21),), ((0, 16384),))

# Rooms in which much has no room.
TIGHT = (stretch(FAR + 16, FAR + 3 * 4096), stretch(4096 + 32, 6 * 4096))
SMALL = tree(None, bridge("west", None, None, bridge("south", None)), None, device("one", ("near", 16)), None)


def told(call, *arguments, **more):
    """What a call answers, an error as its name and its fields."""
    try:
        return call(*arguments, **more)
    except (BusError, LookupError) as error:
        return (type(error).__name__,) + tuple(vars(error).values())


def seen(machine):
    """All that a machine shows of itself."""
    return (machine.tree, machine.rooms, machine.reserved, machine.free, machine.assignment, machine.version,
            machine.edits(), len(machine), str(machine))


class Refusals(unittest.TestCase):
    """A refused call has the very objects that were passed, and leaves everything as it was."""

    def refused(self, error, fields, call, *arguments, **more):
        machine = getattr(call, "__self__", None)
        before = seen(machine) if isinstance(machine, Machine) else None
        with self.assertRaises(error) as caught:
            call(*arguments, **more)
        self.assertIs(type(caught.exception), error)
        self.assertEqual(len(vars(caught.exception)), len(fields))
        for value, field in zip(vars(caught.exception).values(), fields):
            if any(field is argument for argument in arguments):
                self.assertIs(value, field)
            self.assertEqual(value, field)
        if before is not None:
            self.assertEqual(seen(machine), before)
