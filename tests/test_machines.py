"""Points 2, 3 and 28 to 31: machines, their edits, batches and copies."""

import copy
import unittest

from bench import ROOMS, SMALL, TIGHT, T, Refusals, seen, told
from buswindows.bounds import BATCH, MAX_EDITS, MAX_ROOM
from buswindows.errors import (
    BadEdit, BadEdits, BadMarks, BadRooms, BadTree, Busy, Empty, NoAddress, NoAssignment, NoBlock, NoName, NoPart,
    NothingToUndo, NoVersion, Rejected, Taken, TooMany, TooManyEdits,
)
from buswindows.machines import Machine
from buswindows.requests import clashes, follow, reached
from buswindows.rooms import stretch
from buswindows.windows import assignment_holds, first_assignment, refusal
from mirror import Calls, Mirror
from plain import bridge, device, some_tree, tree, walked
from samples import HUGE, OTHERS

FAR = 2 ** 32


class Made(Refusals):
    def test_what_it_tells(self):
        machine = Machine(T, ROOMS)
        self.assertEqual(seen(machine), (T, ROOMS, (), ROOMS, first_assignment(T, ROOMS), 0, (), 0,
                                         "2 devices, 1 bridges, 3 areas, 0 edits"))
        self.assertEqual(seen(Machine(tree(), ((), ())))[:5], (tree(), ((), ()), (), ((), ()), ()))
        self.assertEqual(str(Machine(tree(), ((), ()))), "0 devices, 0 bridges, 0 areas, 0 edits")
        for name in ("tree", "rooms", "reserved", "free", "assignment", "version"):
            with self.assertRaises(AttributeError):
                setattr(machine, name, None)

    def test_class_values(self):
        self.assertEqual((Machine.MOST_EDITS, MAX_EDITS), (40, 40))
        self.assertEqual(Machine.NAMES, ("mark", "plug", "release", "reserve", "unplug"))

    def test_no_tree(self):
        for value in OTHERS + [HUGE, list(T), tree(None, device("A"))]:
            for rooms in (ROOMS, None, value):
                with self.assertRaises(BadTree) as caught:
                    Machine(value, rooms)
                self.assertEqual(caught.exception.error,
                                 ((1,), "name") if value == tree(None, device("A")) else ((), "tree"))

    def test_no_rooms(self):
        for value in OTHERS + [HUGE, list(ROOMS), ROOMS[:1], ROOMS + ((),), ROOMS[::-1], (ROOMS[0], ROOMS[0]),
                               (list(ROOMS[0]), ROOMS[1]), (ROOMS[0], ((16, 16), (0, 16))), (ROOMS[0], ((0, 2 ** 33),)),
                               (((0, 2 ** 48),), ()), (ROOMS[0], ((0, 16), (16, 16))), (((FAR - 16, 16),), ()),
                               ((), ((FAR, 16),)), (ROOMS[0], tuple((32 * at, 16) for at in range(129)))]:
            if value != ((), ()):
                self.refused(BadRooms, (), Machine, tree(), value)
                self.refused(BadRooms, (), Machine, T, value)
        for value in OTHERS:
            if value != ():
                self.refused(BadRooms, (), Machine, tree(), (value, ()))
                self.refused(BadRooms, (), Machine, tree(), ((), value))
        self.assertEqual(len(Machine(tree(), ((), tuple((32 * at, 16) for at in range(128)))).free[1]), 128)
        self.assertEqual(Machine(tree(), (stretch(FAR, 2 ** 48), stretch(0, FAR))).version, 0)

    def test_no_assignment(self):
        for rooms in ((((FAR, 2 ** 19),), ((0, 4096),)), (((FAR, 2 ** 21),), ((0, 4096),)), ((), ())):
            self.refused(NoAssignment, (refusal(T, rooms),), Machine, T, rooms)

    def test_edits(self):
        good = [("mark", 1, 2), ("plug", None, None), ("release", None), ("reserve", []), ("unplug", {})]
        for value in good:
            self.assertIs(Machine.is_edit(value), True)
            self.assertIs(Machine(T, ROOMS).is_edit(value), True)
            for wrong in (value + (None,), value[:-1], list(value), (value,), (value[0].upper(),) + value[1:]):
                self.assertIs(Machine.is_edit(wrong), False)
        for value in OTHERS + [HUGE, ("undo",), ("run", ()), ("make_way", (), "far", 16), ("settle",), ("copy",),
                               ("is_edit", 1), ("follow", 1, 2), ("tree",), ("NAMES",)]:
            self.assertIs(Machine.is_edit(value), False)
            self.assertIs(Machine.is_edit((value,)), False)
            self.assertIs(Machine.is_edit((value, value)), False)
            self.assertIs(Machine.is_edit(("plug", value, value)), True)


class Edits(Refusals):
    def test_plug(self):
        machine = Machine(T, ROOMS)
        part = ("device", "new", (("near", 16), ("far", 16)))
        self.assertEqual(machine.plug((1, 1), part), 1)
        self.assertEqual(machine.tree, tree(T[2][0], bridge("east", T[2][1][3][0], part, marks=("strict",))))
        self.assertEqual(machine.assignment, first_assignment(machine.tree, ROOMS))
        self.assertEqual(machine.edits(), (("plug", (1, 1), part),))
        self.assertEqual(str(machine), "3 devices, 1 bridges, 5 areas, 1 edits")

    def test_plug_refused(self):
        machine = Machine(T, ROOMS)
        part = device("new")
        for path in OTHERS + [HUGE, (), (2,), (-1,), (0, 0), (1, 1, 0), (1, 2), (1, True), [1, 1], "11"]:
            for value in (part, None, "x"):
                self.refused(Taken if path == (0,) else NoPart, (path,), machine.plug, path, value)
        for path in ((0,), (1,), (1, 0)):
            for value in (part, None, "x", machine.tree):
                self.refused(Taken, (path,), machine.plug, path, value)
        self.refused(BadTree, (None,), machine.plug, (1, 1), None)
        for value in OTHERS + [HUGE, T, list(part), ("bridge", "b", ())]:
            if value is not None:
                self.refused(BadTree, (((1, 1), "part"),), machine.plug, (1, 1), value)
        self.refused(BadTree, (((1, 1), "twice"),), machine.plug, (1, 1), device("disk"))
        self.refused(BadTree, (((1, 1, 1), "area"),), machine.plug, (1, 1),
                     bridge("b", None, device("c", ("near", 8))))
        self.refused(BadTree, (((), "devices"),), machine.plug, (1, 1),
                     bridge("b", *[device("x" + letter) for letter in "abcdefgh"][:7],
                            bridge("c", *[device("y" + letter) for letter in "abcdefgh"])))
        big = tree(*T[2][:1], bridge("east", T[2][1][3][0], device("new", ("near", 8192)), marks=("strict",)))
        small = (ROOMS[0], ((0, 8192),))
        self.refused(NoAssignment, (refusal(big, small),), Machine(T, small).plug, (1, 1), device("new", ("near", 8192)))

    def test_unplug(self):
        machine = Machine(T, ROOMS)
        self.assertEqual(machine.unplug((1, 0)), 1)
        self.assertEqual(machine.tree, tree(T[2][0], bridge("east", None, None, marks=("strict",))))
        self.assertEqual(machine.where("east"), ("east", None, None))
        self.assertEqual(machine.unplug((1,)), 2)
        self.assertEqual(machine.tree, tree(T[2][0], None))
        for path in OTHERS + [HUGE, (), (2,), (1, 0), (0, 0)]:
            if path != (0,):
                self.refused(NoPart, (path,), machine.unplug, path)
        self.refused(Empty, ((1,),), machine.unplug, (1,))
        self.assertEqual(machine.unplug((0,)), 3)
        self.assertEqual(machine.assignment, ())

    def test_mark(self):
        machine = Machine(T, ROOMS)
        for version, marks in enumerate(((), ("hiding",), ("strict",), ("hiding", "strict"), ("hiding", "strict"))):
            self.assertEqual(machine.mark("east", marks), version + 1)
            self.assertEqual(machine.tree, tree(T[2][0], bridge("east", *T[2][1][3], marks=marks)))
            self.assertEqual(machine.assignment, first_assignment(T, ROOMS))
        for value in OTHERS + [HUGE, "disk", "net", "zz"]:
            for marks in ((), None, ("strict",)):
                self.refused(NoName, (value,), machine.mark, value, marks)
        for value in OTHERS + [HUGE, ("strict", "hiding"), ("strict", "strict"), ("loose",), ["strict"], "strict",
                               ("hiding", "strict", None)]:
            if value != ():
                self.refused(BadMarks, (value,), machine.mark, "east", value)

    def test_reserve_and_release(self):
        machine = Machine(T, ROOMS)
        self.assertEqual(machine.reserve((0, 4096)), 1)
        self.assertEqual(machine.reserve((FAR + 2 ** 20, 2 ** 20)), 2)
        self.assertEqual(machine.reserve((4096, 16)), 3)
        self.assertEqual(machine.reserved, ((0, 4096), (FAR + 2 ** 20, 2 ** 20), (4096, 16)))
        self.assertEqual(machine.free, (((FAR, 2 ** 20),), stretch(4096 + 16, 16384)))
        self.assertEqual(machine.where("east"), ("east", None, (8192, 8192)))
        for value in OTHERS + [HUGE, (0, 4096), (0, 16), (4096, 4096), (16384, 16), (FAR + 2 ** 20, 16), (8192, 16384),
                               (8192, 48), (8200, 16), [8192, 16], (FAR, 2 ** 21), (False, 16)]:
            self.refused(NoBlock, (value,), machine.reserve, value)
        self.refused(NoAssignment, (("far", (2 ** 20, 2 ** 20, 0)),), machine.reserve, (FAR, 16))
        self.refused(NoAssignment, (("near", (8192, 8192, 0)),), machine.reserve, (8192, 16))
        for value in OTHERS + [HUGE, (0, 16), (0, 8192), (FAR, 16), [0, 4096], (False, 4096), (0, 4096, 0)]:
            self.refused(NoBlock, (value,), machine.release, value)
        self.assertEqual(machine.release((0, 4096)), 4)
        self.assertEqual(machine.reserved, ((FAR + 2 ** 20, 2 ** 20), (4096, 16)))
        self.assertEqual(machine.free, (((FAR, 2 ** 20),), ((0, 4096),) + stretch(4096 + 16, 16384)))
        self.assertEqual(machine.release((4096, 16)), 5)
        self.assertEqual(machine.free, (((FAR, 2 ** 20),), ((0, 16384),)))
        self.refused(NoBlock, ((4096, 16),), machine.release, (4096, 16))
        self.assertEqual(machine.reserve((0, 4096)), 6)
        self.assertEqual(machine.reserved, ((FAR + 2 ** 20, 2 ** 20), (0, 4096)))

    def test_a_block_of_all_that_is_free(self):
        machine = Machine(tree(), (((FAR, FAR),), ((0, FAR),)))
        self.assertEqual((machine.reserve((0, FAR)), machine.reserve((FAR, FAR))), (1, 2))
        self.assertEqual(machine.free, ((), ()))
        self.refused(NoBlock, ((0, 16),), machine.reserve, (0, 16))
        self.assertEqual(machine.release((FAR, FAR)), 3)
        self.assertEqual(machine.free, (((FAR, FAR),), ()))

    def test_too_many_blocks(self):
        near = tuple((64 * at, 32) for at in range(127)) + ((2 ** 20, 64),)
        machine = Machine(tree(), ((), near))
        self.refused(TooMany, (MAX_ROOM,), machine.reserve, (2 ** 20 + 16, 16))
        self.assertEqual(machine.reserve((2 ** 20 + 32, 32)), 1)
        self.assertEqual(machine.reserve((2 ** 20 + 16, 16)), 2)
        self.assertEqual(machine.reserve((0, 32)), 3)
        self.assertEqual(machine.reserve((64, 16)), 4)
        self.assertEqual(len(machine.free[1]), 127)
        # Behind a release there may be more, and behind a reserve there may not.
        machine = Machine(tree(), ((), near))
        for block in ((2 ** 20, 64), (0, 32)):
            machine.reserve(block)
        machine.reserve((64, 16))
        machine.release((0, 32))
        self.assertEqual(machine.reserve((128, 16)), 5)
        machine.release((2 ** 20, 64))
        self.assertEqual(len(machine.free[1]), 128)
        whole = Machine(tree(), ((), ((0, 2 ** 13),)))
        whole.reserve((0, 2 ** 12))
        self.assertEqual(whole.release((0, 2 ** 12)), 2)
        self.assertEqual(whole.free, ((), ((0, 2 ** 13),)))

    def test_release_may_leave_more_blocks_than_a_room_that_is_passed(self):
        near = ((0, 64),) + tuple((128 + 64 * at, 32) for at in range(126)) + ((2 ** 20, 64),)
        machine = Machine(tree(), ((), near))
        self.assertEqual(len(machine.free[1]), 128)
        machine.reserve((0, 64))
        machine.reserve((2 ** 20, 16))
        self.assertEqual(len(machine.free[1]), 128)
        self.assertEqual(machine.release((0, 64)), 3)
        self.assertEqual(len(machine.free[1]), 129)
        for block in ((16, 16), (128, 16)):
            self.refused(TooMany, (MAX_ROOM,), machine.reserve, block)
        self.assertEqual(machine.reserve((2 ** 20 + 16, 16)), 4)
        self.assertEqual(machine.reserved, ((2 ** 20, 16), (2 ** 20 + 16, 16)))

    def test_undo(self):
        machine = Machine(T, ROOMS)
        self.refused(NothingToUndo, (), machine.undo)
        states = [seen(machine)]
        for name, *arguments in (("unplug", (0,)), ("reserve", (0, 16)), ("mark", "east", ()), ("unplug", (1, 0)),
                                 ("plug", (1, 1), device("b", ("far", 16))), ("release", (0, 16))):
            self.assertEqual(getattr(machine, name)(*arguments), len(states))
            states.append(seen(machine))
        for version in reversed(range(len(states) - 1)):
            self.assertEqual(machine.undo(), version)
            self.assertEqual(seen(machine), states[version])
        self.refused(NothingToUndo, (), machine.undo)

    def test_most_edits(self):
        machine = Machine(T, ROOMS)
        for version in range(40):
            self.assertEqual(machine.mark("east", ()), version + 1)
        for call, *arguments in ((machine.plug, None, None), (machine.unplug, ()), (machine.mark, None, None),
                                 (machine.reserve, None), (machine.release, None), (machine.mark, "east", ())):
            self.refused(TooManyEdits, (), call, *arguments)
        self.refused(Rejected, (0,), machine.run, [("mark", "east", ())])
        self.assertEqual(machine.run([]), 40)
        self.assertEqual(machine.undo(), 39)
        self.refused(Rejected, (1,), machine.run, [("mark", "east", ())] * 2)
        self.assertEqual(machine.run([("mark", "east", ())]), 40)


class Batches(Refusals):
    GOOD = [("unplug", (0,)), ("plug", (0,), ("device", "new", (("near", 16),))), ("reserve", (0, 16))]

    def test_all(self):
        for kind in (list, tuple):
            machine = Machine(T, ROOMS)
            self.assertEqual(machine.run(kind(self.GOOD)), 3)
            self.assertEqual(machine.edits(), tuple(self.GOOD))
            other = Machine(T, ROOMS)
            for name, *arguments in self.GOOD:
                getattr(other, name)(*arguments)
            self.assertEqual(seen(machine), seen(other))
            for version in (2, 1, 0):
                self.assertEqual((machine.undo(), other.undo()), (version, version))
                self.assertEqual(seen(machine), seen(other))
        self.assertEqual(Machine(T, ROOMS).run(()), 0)

    def test_none(self):
        for index in range(4):
            machine = Machine(T, ROOMS)
            machine.mark("east", ())
            for bad in (("unplug", ()), ("plug", (9,), None), ("mark", "zz", ()), ("release", None), ("reserve", None),
                        ("mark", "east", None), ("plug", (1, 1), None), ("plug", (1, 1), device("new", ("near", 2 ** 31)))):
                self.refused(Rejected, (index,), machine.run, self.GOOD[:index] + [bad] + self.GOOD[index:])

    def test_no_edits(self):
        machine = Machine(T, ROOMS)
        for value in OTHERS + [HUGE, dict(a=1), "plug", iter(self.GOOD)]:
            if not isinstance(value, (list, tuple)):
                self.refused(BadEdits, (), machine.run, value)
        self.assertEqual(BATCH, 10)
        self.refused(BadEdits, (), machine.run, [("mark", "east", ())] * 11)
        self.refused(BadEdits, (), machine.run, (None,) * 11)
        self.assertEqual(machine.run([("mark", "east", ())] * 10), 10)
        for index in range(4):
            for value in OTHERS + [HUGE, ("undo",), ("run", ()), ("settle",), ("plug", ()), ["unplug", (0,)]]:
                edits = self.GOOD[:index] + [value] + [None] * (3 - index)
                self.refused(BadEdit, (index,), machine.run, edits)
                # That an item is no edit is told before any edit is done.
                self.refused(BadEdit, (1,), machine.run, [("unplug", ()), value])

    def test_steps(self):
        machine = Machine(T, ROOMS)
        steps = []

        def on_step(given):
            self.assertIs(given, machine)
            steps.append(seen(given))
            self.assertEqual(given.tree_at(given.version), given.tree)
            self.assertEqual(given.where("net")[0], "net")
            self.assertEqual(given.follow(None, 0), follow(given.tree, given.assignment, None, 0))
            return "whatever"

        self.assertEqual(machine.run(self.GOOD, on_step=on_step), 3)
        other = Machine(T, ROOMS)
        for step, (name, *arguments) in zip(steps, self.GOOD):
            getattr(other, name)(*arguments)
            self.assertEqual(step, seen(other))
        self.assertEqual(len(steps), 3)
        self.assertEqual(machine.run((), on_step=on_step), 3)
        self.assertEqual(len(steps), 3)

    def test_busy(self):
        machine = Machine(T, ROOMS)
        calls = [("plug", None, None), ("unplug", ()), ("mark", None, None), ("reserve", None), ("release", None),
                 ("undo",), ("run", None), ("run", ()), ("unplug", (1,)), ("mark", "east", ())]

        def on_step(given):
            for name, *arguments in calls:
                self.refused(Busy, (), getattr(given, name), *arguments)

        self.assertEqual(machine.run(self.GOOD, on_step=on_step), 3)
        self.assertEqual(machine.undo(), 2)
        # It comes before that there are too many edits.
        full = Machine(T, ROOMS)
        for _ in range(39):
            full.mark("east", ())
        self.assertEqual(full.run([("mark", "east", ())], on_step=on_step), 40)
        self.refused(TooManyEdits, (), full.plug, None, None)
        with self.assertRaises(Busy):
            machine.run([("mark", "east", ())], on_step=lambda given: given.undo())
        self.assertEqual(machine.version, 2)
        machine.mark("east", ())

    def test_a_step_that_raises(self):
        class Stop(Exception):
            pass

        for many in range(1, 4):
            for error in (Stop, KeyError, ValueError, Rejected, KeyboardInterrupt):
                machine = Machine(T, ROOMS)
                machine.mark("east", ())
                before = seen(machine)
                steps = []
                raised = error(0)

                def on_step(given):
                    steps.append(given.version)
                    if len(steps) == many:
                        raise raised

                with self.assertRaises(error) as caught:
                    machine.run(self.GOOD, on_step=on_step)
                self.assertIs(caught.exception, raised)
                self.assertEqual(steps, list(range(2, 2 + many)))
                self.assertEqual(seen(machine), before)
                self.assertEqual(machine.run(self.GOOD), 4)

    def test_the_edits_are_copied(self):
        machine = Machine(T, ROOMS)
        edits = list(self.GOOD)

        def on_step(given):
            edits.clear()
            edits.append(None)

        self.assertEqual(machine.run(edits, on_step=on_step), 3)
        self.assertEqual(machine.edits(), tuple(self.GOOD))

    def test_copies_within_a_step(self):
        machine = Machine(T, ROOMS)
        twins = []

        def on_step(given):
            twin = given.copy()
            self.assertEqual(seen(twin), seen(given))
            twin.mark("east", ())
            self.assertEqual(twin.run([("unplug", (1, 0))], on_step=lambda other: self.refused(Busy, (), given.undo)),
                             given.version + 2)
            twins.append(twin)
            if len(twins) == 3:
                raise KeyError(0)

        with self.assertRaises(KeyError):
            machine.run(self.GOOD, on_step=on_step)
        self.assertEqual(seen(machine), seen(Machine(T, ROOMS)))
        self.assertEqual([twin.version for twin in twins], [3, 4, 5])
        for twin, version in zip(twins, (1, 2, 3)):
            twin.undo()
            twin.undo()
            self.assertEqual(twin.edits(), tuple(self.GOOD[:version]))

    def test_a_run_within_a_run_of_another_machine(self):
        machine, other = Machine(T, ROOMS), Machine(T, ROOMS)

        def on_step(given):
            other.run([("mark", "east", ())], on_step=lambda inner: self.refused(Busy, (), machine.undo))

        self.assertEqual(machine.run(self.GOOD, on_step=on_step), 3)
        self.assertEqual((machine.version, other.version), (3, 3))


class Queries(Refusals):
    def test_follow(self):
        machine = Machine(T, ROOMS)
        for origin in (None, "disk", "net"):
            for address in (0, 4096, 4112, 9000, FAR, 2 ** 48 - 1):
                self.assertEqual(machine.follow(origin, address), follow(T, machine.assignment, origin, address))
        for value in OTHERS + [HUGE, "east", "zz"]:
            if value is not None:
                self.refused(NoName, (value,), machine.follow, value, 0)
                self.refused(NoName, (value,), machine.follow, value, None)
        for value in OTHERS + [HUGE, 2 ** 48]:
            self.refused(NoAddress, (value,), machine.follow, None, value)

    def test_where(self):
        machine = Machine(T, ROOMS)
        for row in first_assignment(T, ROOMS):
            self.assertEqual(machine.where(row[0]), row)
        for value in OTHERS + [HUGE, "zz"]:
            self.refused(NoName, (value,), machine.where, value)

    def test_tree_at(self):
        machine = Machine(T, ROOMS)
        trees = [T]
        for name, *arguments in Batches.GOOD:
            getattr(machine, name)(*arguments)
            trees.append(machine.tree)
        for version, whole in enumerate(trees):
            self.assertEqual(machine.tree_at(version), whole)
        for value in OTHERS + [HUGE, 4, -1, True]:
            self.refused(NoVersion, (value,), machine.tree_at, value)
        machine.undo()
        self.refused(NoVersion, (3,), machine.tree_at, 3)

    def test_copies(self):
        machine = Machine(T, ROOMS)
        machine.run(Batches.GOOD)
        twin = machine.copy()
        self.assertIs(type(twin), Machine)
        self.assertEqual(seen(twin), seen(machine))
        self.assertIs(twin == machine, True)
        before = seen(machine)
        self.assertEqual(twin.undo(), 2)
        twin.mark("east", ())
        self.assertEqual(seen(machine), before)
        before = seen(twin)
        machine.undo()
        machine.undo()
        self.assertEqual(seen(twin), before)
        for version in (2, 1, 0):
            self.assertEqual(twin.undo(), version)
        self.assertEqual(seen(twin), seen(Machine(T, ROOMS)))

    def test_equality(self):
        machine, other = Machine(T, ROOMS), Machine(T, ROOMS)
        self.assertIs(machine == other, True)
        self.assertIs(machine != other, False)
        # The edits do not matter, but what is there behind them does.
        other.mark("east", ("strict",))
        self.assertEqual(machine, other)
        other.mark("east", ())
        self.assertNotEqual(machine, other)
        one, two = Machine(T, ROOMS), Machine(T, ROOMS)
        one.reserve((0, 16))
        self.assertNotEqual(one, two)
        one.reserve((32, 16))
        two.reserve((32, 16))
        two.reserve((0, 16))
        self.assertEqual((one.free, one.assignment, one.tree), (two.free, two.assignment, two.tree))
        self.assertNotEqual(one, two)
        wider = (((FAR, 2 ** 21),), ((0, 16384), (32768, 16)))
        self.assertNotEqual(Machine(T, ROOMS), Machine(T, wider))
        for value in OTHERS + [T, ROOMS, seen(machine)]:
            self.assertIs(machine == value, False)
            self.assertIs(machine != value, True)

    def test_later_changes_of_arguments(self):
        edits = [("reserve", (0, 16))]
        machine = Machine(T, ROOMS)
        machine.run(edits)
        before = copy.deepcopy(seen(machine))
        edits.append(("unplug", (0,)))
        self.assertEqual(seen(machine), before)


class RandomCalls(unittest.TestCase):
    def test_against_the_words(self):
        words = {}
        for seed in range(24):
            start = some_tree(seed, sizes=(16, 32), bridges=3, devices=3, slots=4) if seed % 2 else SMALL
            rooms = ROOMS if seed % 3 == 0 else TIGHT
            if refusal(start, rooms) is not None:
                start = SMALL
            machine, mirror, calls = Machine(start, rooms), Mirror(start, rooms, hot=False), Calls(seed, hot=False)
            for _ in range(80):
                name, *arguments = calls.call(mirror)
                answer = told(mirror.call, name, *arguments)
                self.assertEqual(told(getattr(machine, name), *arguments), answer, (name, arguments))
                words[answer[0] if isinstance(answer, tuple) else name] = True
                self.check(machine, mirror)
        self.assertEqual(set(words), {
            "plug", "unplug", "mark", "reserve", "release", "undo", "run", "BadTree", "NoAssignment", "NoPart", "Taken",
            "Empty", "NoName", "BadMarks", "NoBlock", "NothingToUndo", "BadEdits", "BadEdit", "Rejected",
            "TooManyEdits"})

    def check(self, machine, mirror):
        self.assertEqual(seen(machine)[:7], (
            mirror.tree, mirror.rooms, mirror.reserved, mirror.free(), mirror.rows, len(mirror.done), mirror.edits()))
        self.assertEqual(machine.assignment, first_assignment(machine.tree, machine.free))
        self.assertTrue(assignment_holds(machine.tree, machine.free, machine.assignment))
        self.assertEqual(clashes(machine.tree, machine.assignment), ())
        for _, part in list(walked(machine.tree))[:3]:
            for index in range(len(part[2]) if part[0] == "device" else 0):
                self.assertEqual(reached(machine.tree, machine.assignment, part[1], index),
                                 (machine.where(part[1])[1][index],))


if __name__ == "__main__":
    unittest.main()
