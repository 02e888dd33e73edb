"""Points 2, 3, 32 and 33: machines whose blocks stay, and machines with a log."""

import unittest

from bench import ROOMS, SMALL, TIGHT, T, Refusals, seen, told
from buswindows.errors import (
    Busy, NoAssignment, NoBlock, NoKind, NoPart, NoSize, NoSpace, NothingToUndo, NoWindow, Occupied, Rejected, Taken,
    TooManyEdits,
)
from buswindows.hot import HotMachine, LoggedHotMachine, LoggedMachine
from buswindows.machines import Machine
from buswindows.requests import clashes, reached
from buswindows.rooms import capacity, room_of, stretch, without
from buswindows.windows import assignment_holds, first_assignment, refusal
from mirror import Calls, Mirror
from plain import bridge, device, some_tree, tree, walked
from samples import HUGE, OTHERS

FAR = 2 ** 32
CLASSES = (Machine, HotMachine, LoggedMachine, LoggedHotMachine)
HOT = (HotMachine, LoggedHotMachine)
LOGGED = (LoggedMachine, LoggedHotMachine)

# Behind unplugging a there is a hole of 4096 addresses before the window of b.
HOLED = tree(bridge("a", device("aa", ("near", 16))), bridge("b", device("bb", ("near", 4096), ("near", 2048)), None),
             device("c", ("near", 64)), None)
NEAR = ((), ((0, 32768),))


class Made(unittest.TestCase):
    def test_classes(self):
        self.assertEqual([owner.__bases__ for owner in CLASSES[1:]],
                         [(Machine,), (Machine,), (LoggedMachine, HotMachine)])
        for owner in CLASSES:
            machine = owner(T, ROOMS)
            self.assertEqual(seen(machine), seen(Machine(T, ROOMS)))
            self.assertEqual(owner.MOST_EDITS, 40)
            self.assertIs(type(machine.copy()), owner)

    def test_names(self):
        for owner in CLASSES:
            hot = owner in HOT
            self.assertEqual(owner.NAMES, ("make_way", "mark", "plug", "release", "reserve", "settle", "unplug") if hot
                             else ("mark", "plug", "release", "reserve", "unplug"))
            for value in (("make_way", None, [], {}), ("settle",)):
                self.assertIs(owner.is_edit(value), hot)
                self.assertIs(owner(T, ROOMS).is_edit(value), hot)
            for value in (("make_way", (), "far"), ("settle", None), ["settle"], ("log",), ("undo",), ("run", ())):
                self.assertIs(owner.is_edit(value), False)
            self.assertIs(owner.is_edit(("mark", 0, 0)), True)
            self.assertIs(hasattr(owner, "make_way"), hot)

    def test_wrong_starts(self):
        for owner in CLASSES:
            self.assertEqual(told(owner, None, None), ("BadTree", ((), "tree")))
            self.assertEqual(told(owner, T, None), ("BadRooms",))
            self.assertEqual(told(owner, T, ((), ())), ("NoAssignment", refusal(T, ((), ()))))


class Plug(Refusals):
    def test_a_device_on_a_standing_segment(self):
        machine = HotMachine(HOLED, NEAR)
        self.assertEqual([machine.where(name)[-1] for name in "abc"], [(8192, 4096), (0, 8192), ((12288, 64),)])
        machine.unplug((0,))
        self.assertEqual([machine.where(name)[-1] for name in "bc"], [(0, 8192), ((12288, 64),)])
        # The sizes have their turns in what is free, and the first block that is free is in the hole.
        machine.plug((3,), device("d", ("near", 16), ("near", 4096), ("near", 16)))
        self.assertEqual(machine.where("d"), ("d", ((12352, 16), (8192, 4096), (12368, 16))))
        # The window of b stays, and what is plugged below it is placed in what is free there.
        machine.plug((1, 1), device("e", ("near", 512), ("near", 1024)))
        self.assertEqual(machine.where("e"), ("e", ((7168, 512), (6144, 1024))))
        self.assertEqual(machine.where("b"), ("b", None, (0, 8192)))
        # Of two sizes each of which has space by itself, one has none beside the other one.
        self.refused(NoSpace, ("near", (2 ** 14, 2 ** 15, 2 ** 14)), machine.plug, (0,),
                     device("f", ("near", 2 ** 14), ("near", 2 ** 14)))

    def test_no_space_below_a_window_that_stays(self):
        machine = HotMachine(HOLED, NEAR)
        part = device("e", ("near", 2048), ("near", 16))
        # There would be an assignment with a greater window.
        self.assertIsNone(refusal(tree(HOLED[2][0], bridge("b", HOLED[2][1][3][0], part), *HOLED[2][2:]), NEAR))
        self.refused(NoSpace, ("near", (16, 2064, 2048)), machine.plug, (1, 1), part)
        self.refused(NoSpace, ("near", (4096, 4096, 0)), machine.plug, (1, 1), bridge("e", device("f", ("near", 16))))
        self.assertEqual(machine.settle(), 1)
        self.refused(NoSpace, ("near", (16, 2064, 2048)), machine.plug, (1, 1), part)

    def test_new_windows(self):
        whole = tree(bridge("p", device("one", ("near", 16)), bridge("q", bridge("r", None, device("two")), None)),
                     device("three", ("far", 16)))
        rooms = (((FAR, 2 ** 16),), ((0, 2 ** 16),))
        machine = HotMachine(whole, rooms)
        self.assertEqual(machine.where("p"), ("p", None, (0, 4096)))
        part = bridge("s", device("four", ("far", 4096), ("far", 16)), None, bridge("t", device("five", ("far", 32))))
        self.assertEqual(machine.plug((0, 1, 0, 0), part), 1)
        # On the top segment the far window of p is new, with the least size that is needed below it.
        self.assertEqual(machine.where("three"), ("three", ((FAR, 16),)))
        start = FAR + 2 ** 14
        self.assertEqual(machine.assignment, (
            ("p", (start, 2 ** 14), (0, 4096)), ("one", ((0, 16),)), ("q", (start, 2 ** 14), None),
            ("r", (start, 2 ** 14), None), ("s", (start, 2 ** 14), None),
            ("four", ((start, 4096), (start + 8192, 16))), ("t", (start + 4096, 4096), None),
            ("five", ((start + 4096, 32),)), ("two", ()), ("three", ((FAR, 16),))))
        # For near addresses p has a window that stays, and that of one more bridge has no space in it.
        self.refused(NoSpace, ("near", (4096, 4096, 0)), machine.plug, (0, 1, 1), device("six", ("near", 16)))
        # The far window of q is full of that of r, but below s there is something free.
        self.refused(NoSpace, ("far", (16, 16, 0)), machine.plug, (0, 1, 1), device("six", ("far", 16)))
        self.refused(NoSpace, ("far", (8192, 8192, 0)), machine.plug, (0, 1, 0, 0, 1),
                     bridge("u", device("v", ("far", 4096), ("far", 16))))
        self.assertEqual(machine.plug((0, 1, 0, 0, 1), device("six", ("far", 16))), 2)
        self.assertEqual(machine.where("six"), ("six", ((start + 8208, 16),)))

    def test_far_before_near(self):
        whole = tree(bridge("a", device("b", ("far", 16), ("near", 16)), None), None)
        machine = HotMachine(whole, (((FAR, 4096),), ((0, 4096),)))
        self.refused(NoSpace, ("far", (4096, 4096, 0)), machine.plug, (1,),
                     bridge("c", device("d", ("near", 16), ("far", 16))))
        self.refused(NoSpace, ("near", (4096, 4096, 0)), machine.plug, (1,),
                     bridge("c", device("d", ("near", 16))))
        self.refused(NoSpace, ("far", (16, 16, 0)), machine.plug, (1,), device("d", ("near", 16), ("far", 16)))

    def test_sizes_greater_than_all_addresses(self):
        whole = tree(None, None)
        machine = HotMachine(whole, (stretch(FAR, 2 ** 48), ()))
        great = device("a", *[("far", 2 ** 40)] * 4)
        part = great
        for name in "bcdefg"[:5]:
            part = bridge(name, part)
        self.assertEqual(machine.plug((0,), part), 1)
        self.assertEqual(machine.where("b"), ("b", (2 ** 42, 2 ** 42), None))
        eight = bridge("h", *[device("i" + letter, *[("far", 2 ** 40)] * 4) for letter in "abcdefgh"])
        self.refused(NoSpace, ("far", (2 ** 45, 2 ** 45, 0)), HotMachine(tree(None), (((FAR, FAR),), ())).plug, (0,), eight)
        self.assertEqual(machine.plug((1,), eight), 2)

    def test_errors_before_no_space(self):
        machine = HotMachine(HOLED, NEAR)
        self.refused(NoPart, ((9,),), machine.plug, (9,), None)
        self.refused(Taken, ((0,),), machine.plug, (0,), None)
        self.assertEqual(told(machine.plug, (3,), None), ("BadTree", None))
        self.assertEqual(told(machine.plug, (3,), device("a")), ("BadTree", ((3,), "twice")))

    def test_a_device_without_areas(self):
        machine = HotMachine(HOLED, ((), ((0, 16384),)))
        before = machine.assignment
        machine.plug((1, 1), bridge("x", device("y")))
        self.assertEqual(machine.assignment, before[:4] + (("x", None, None), ("y", ())) + before[4:])


class Unplug(Refusals):
    def test_windows_that_are_no_longer_needed(self):
        whole = tree(bridge("p", bridge("q", device("one", ("near", 16)), device("two", ("far", 4096), ("far", 16))),
                            device("three", ("near", 16))))
        machine = HotMachine(whole, (((FAR, 2 ** 16),), ((0, 2 ** 16),)))
        first = machine.assignment
        self.assertEqual(machine.where("p"), ("p", (FAR, 8192), (0, 8192)))
        machine.unplug((0, 0, 1))
        self.assertEqual(machine.assignment, (("p", None, (0, 8192)), ("q", None, (0, 4096)), ("one", ((0, 16),)),
                                              ("three", ((4096, 16),))))
        machine.unplug((0, 0, 0))
        # The window of p stays as great as it was.
        self.assertEqual(machine.assignment, (("p", None, (0, 8192)), ("q", None, None), ("three", ((4096, 16),))))
        machine.plug((0, 0, 0), device("one", ("near", 16)))
        self.assertEqual(machine.where("q"), ("q", None, (0, 4096)))
        self.assertEqual([machine.undo(), machine.undo(), machine.undo()], [2, 1, 0])
        self.assertEqual(machine.assignment, first)


class ReserveAndRelease(Refusals):
    def test_occupied(self):
        whole = tree(device("a", ("near", 64)), bridge("b", device("c", ("near", 16), ("far", 16))), None)
        machine = HotMachine(whole, (((FAR, 2 ** 14),), ((0, 2 ** 14),)))
        self.assertEqual([machine.where("a")[1], machine.where("b")[1:]], [((4096, 64),), ((FAR, 4096), (0, 4096))])
        for block in ((0, 16), (4080, 16), (0, 8192), (4096, 16), (4096, 4096), (4096, 64), (FAR, 16), (FAR, 2 ** 14)):
            self.refused(Occupied, (block,), machine.reserve, block)
        for value in OTHERS + [HUGE, (2 ** 14, 16), (0, 2 ** 15), [0, 16]]:
            if value != (0, 16):
                self.refused(NoBlock, (value,), machine.reserve, value)
        before = machine.assignment
        for version, block in enumerate(((4160, 32), (8192, 8192), (FAR + 4096, 4096))):
            self.assertEqual(machine.reserve(block), version + 1)
        self.assertEqual(machine.assignment, before)
        # A new part comes to stand beside what is reserved.
        machine.plug((2,), device("d", ("near", 64), ("far", 4096)))
        self.assertEqual(machine.where("d"), ("d", ((4224, 64), (FAR + 8192, 4096))))
        before = machine.assignment
        self.assertEqual(machine.release((8192, 8192)), 5)
        self.assertEqual(machine.assignment, before)
        self.assertEqual(told(machine.release, (8192, 8192)), ("NoBlock", (8192, 8192)))

    def test_too_many_comes_before_occupied(self):
        near = tuple((64 * at, 32) for at in range(127)) + ((2 ** 20, 64),)
        machine = HotMachine(tree(device("a", ("near", 64))), ((), near))
        self.assertEqual(machine.where("a"), ("a", ((2 ** 20, 64),)))
        self.assertEqual(told(machine.reserve, (2 ** 20 + 16, 16)), ("TooMany", 128))
        self.assertEqual(told(machine.reserve, (2 ** 20, 32)), ("Occupied", (2 ** 20, 32)))


class MakeWay(Refusals):
    def hot(self):
        machine = HotMachine(HOLED, ((), ((0, 16384),)))
        machine.unplug((0,))
        return machine

    def test_a_window_moves_with_all_in_it(self):
        whole = tree(None, bridge("w", device("x", ("near", 16), ("far", 16)), bridge("y", device("z", ("near", 32)))),
                     None, None)
        machine = HotMachine(whole, (((FAR, 4096),), ((0, 16384), (32768, 8192))))
        before = machine.assignment
        self.assertEqual(before, (("w", (FAR, 4096), (0, 8192)), ("x", ((4096, 16), (FAR, 16))), ("y", None, (0, 4096)),
                                  ("z", ((0, 32),))))
        self.assertEqual(machine.make_way((), "near", 8192), 1)
        self.assertEqual(machine.assignment, before)
        self.refused(NoSpace, ("near", (32768, 32768, 0)), machine.make_way, (), "near", 32768)
        self.assertEqual(machine.make_way((), "near", 16384), 2)
        self.assertEqual(machine.assignment, (
            ("w", (FAR, 4096), (32768, 8192)), ("x", ((36864, 16), (FAR, 16))), ("y", None, (32768, 4096)),
            ("z", ((32768, 32),))))
        self.assertEqual(machine.undo(), 1)
        self.assertEqual(machine.assignment, before)

    def test_one_of_two_windows_moves(self):
        whole = tree(bridge("t", device("s", ("near", 8192))), bridge("w", device("x", ("near", 4096), ("near", 16))),
                     None, None)
        machine = HotMachine(whole, ((), ((0, 32768),)))
        machine.plug((2,), device("u", ("near", 8192)))
        machine.unplug((0,))
        blocks = {name: machine.where(name) for name in "uwx"}
        self.assertEqual(blocks["w"], ("w", None, (8192, 8192)))
        self.assertEqual(blocks["u"], ("u", ((16384, 8192),)))
        self.assertEqual(machine.make_way((), "near", 16384), 3)
        offset = machine.where("w")[2][0] - 8192
        self.assertEqual([start for start, _ in machine.where("x")[1]],
                         [start + offset for start, _ in blocks["x"][1]])
        taken = (machine.where("w")[2], machine.where("u")[1][0])
        self.assertEqual(capacity(without(machine.free[1], room_of(taken)), 16384), 16384)
        self.assertTrue(assignment_holds(machine.tree, machine.free, machine.assignment))

    def test_within_a_window(self):
        whole = tree(bridge("b", device("one", ("near", 1024)), device("two", ("near", 1024)),
                            device("three", ("near", 1024)), None))
        machine = HotMachine(whole, ((), ((0, 4096),)))
        machine.unplug((0, 0))
        machine.plug((0, 3), device("four", ("near", 1024)))
        machine.unplug((0, 1))
        before = machine.assignment
        self.assertEqual(machine.make_way((0,), "near", 1024), 4)
        self.assertEqual(machine.assignment, before)
        self.assertEqual(machine.make_way((0,), "near", 2048), 5)
        machine.plug((0, 0), device("five", ("near", 2048)))
        self.assertTrue(assignment_holds(machine.tree, machine.free, machine.assignment))
        self.refused(NoSpace, ("near", (16, 4112, 4096)), machine.make_way, (0,), "near", 16)
        self.assertEqual(machine.where("b"), ("b", None, (0, 4096)))

    def test_refusals(self):
        machine = self.hot()
        for value in OTHERS + [HUGE, (0,), (1, 0), (1, 1), (2,), (3,), (4,), [1], "1"]:
            if value != ():
                self.refused(NoPart, (value,), machine.make_way, value, "near", 16)
                self.refused(NoPart, (value,), machine.make_way, value, None, None)
        for value in OTHERS + [HUGE, "Far", "reads"]:
            self.refused(NoKind, (value,), machine.make_way, (1,), value, 16)
            self.refused(NoKind, (value,), machine.make_way, (), value, None)
        for value in OTHERS + [HUGE, 0, 8, 24, 2 ** 49, True]:
            self.refused(NoSize, (value,), machine.make_way, (), "near", value)
            # There is no window of this kind, which is told only then.
            self.refused(NoSize, (value,), machine.make_way, (1,), "far", value)
        self.refused(NoWindow, ((1,),), machine.make_way, (1,), "far", 16)
        self.refused(NoSpace, ("far", (16, 16, 0)), machine.make_way, (), "far", 16)
        self.refused(NoSpace, ("near", (2 ** 48, 2 ** 48, 0)), machine.make_way, (), "near", 2 ** 48)
        self.refused(NoSpace, ("near", (16384, 16384, 0)), machine.make_way, (1,), "near", 16384)

    def test_equal_calls_make_the_same_moves(self):
        for size in (16, 1024, 4096):
            machine, twin = self.hot(), self.hot()
            self.assertEqual(machine.make_way((), "near", size), twin.make_way((), "near", size))
            self.assertEqual(seen(machine), seen(twin))

    def test_reserved_blocks_are_no_way(self):
        machine = HotMachine(tree(device("a", ("near", 16))), ((), ((0, 64),)))
        self.assertEqual(machine.where("a"), ("a", ((0, 16),)))
        machine.reserve((32, 16))
        self.assertEqual(machine.make_way((), "near", 32), 2)
        self.assertEqual(machine.where("a"), ("a", ((48, 16),)))
        self.refused(NoSpace, ("near", (64, 64, 0)), machine.make_way, (), "near", 64)


class Settle(Refusals):
    def test_settle(self):
        machine = HotMachine(HOLED, NEAR)
        machine.unplug((0,))
        machine.reserve((8192, 4096))
        before = machine.assignment
        self.assertEqual(machine.settle(), 3)
        self.assertEqual(machine.assignment, first_assignment(machine.tree, machine.free))
        self.assertEqual(machine.edits()[-1], ("settle",))
        self.assertEqual(machine.undo(), 2)
        self.assertEqual(machine.assignment, before)

    def test_a_window_that_had_become_too_great(self):
        machine = HotMachine(HOLED, NEAR)
        machine.plug((1, 1), device("x", ("near", 16)))
        machine.unplug((1, 0))
        self.assertEqual(machine.where("b"), ("b", None, (0, 8192)))
        machine.settle()
        self.assertEqual(machine.where("b"), ("b", None, (4096, 4096)))


class Edits(Refusals):
    def test_too_many_and_busy(self):
        for owner in HOT:
            machine = owner(T, ROOMS)
            calls = [("make_way", None, None, None), ("settle",), ("plug", None, None), ("undo",), ("run", None)]

            def on_step(given):
                for name, *arguments in calls:
                    self.refused(Busy, (), getattr(given, name), *arguments)

            self.assertEqual(machine.run([("settle",), ("make_way", (), "far", 16)], on_step=on_step), 2)
            for version in range(3, 41):
                self.assertEqual(machine.settle(), version)
            for name, *arguments in calls[:3]:
                self.refused(TooManyEdits, (), getattr(machine, name), *arguments)
            self.refused(Rejected, (0,), machine.run, [("settle",)])
            self.assertEqual(machine.undo(), 39)

    def test_batches(self):
        for owner in HOT:
            for bad in (("make_way", None, None, None), ("make_way", (), "both", 16), ("make_way", (), "far", 8),
                        ("make_way", (1,), "far", 16), ("make_way", (), "far", 2 ** 40), ("reserve", (FAR, 16)),
                        ("plug", (1, 1), device("new", ("near", 4096)))):
                machine = owner(T, ROOMS)
                self.refused(Rejected, (1,), machine.run, [("settle",), bad])
            self.refused(Rejected, (0,), Machine(T, ROOMS).run, [("reserve", (9, 16))])
        for owner in (Machine, LoggedMachine):
            self.assertEqual(told(owner(T, ROOMS).run, [("mark", "east", ()), ("settle",)]), ("BadEdit", 1))

    def test_no_assignment_is_never_told(self):
        for name, *arguments in (("plug", (1, 1), device("new", ("near", 4096))), ("reserve", (FAR, 16))):
            answers = [told(getattr(owner(T, (((FAR, 2 ** 20),), ((0, 8192),))), name), *arguments) for owner in CLASSES]
            self.assertEqual([answer[0] for answer in answers][::2], ["NoAssignment"] * 2)
            self.assertEqual([answer[0] for answer in answers][1::2],
                             ["NoSpace" if name == "plug" else "Occupied"] * 2)
        self.assertRaises(NoAssignment, HotMachine, T, ((), ()))


class Copies(unittest.TestCase):
    def test_copies_are_independent(self):
        for owner in CLASSES:
            machine = owner(HOLED, NEAR)
            machine.unplug((0,))
            machine.reserve((16384, 16))
            twin = machine.copy()
            self.assertIs(type(twin), owner)
            self.assertEqual(seen(twin), seen(machine))
            before = seen(machine)
            twin.plug((0,), device("new", ("near", 4096)))
            twin.undo()
            twin.undo()
            self.assertEqual(seen(machine), before)
            before = seen(twin)
            machine.undo()
            machine.undo()
            self.assertEqual(seen(machine), seen(owner(HOLED, NEAR)))
            self.assertEqual(seen(twin), before)
            twin.undo()
            self.assertEqual(seen(twin), seen(machine))

    def test_equality_of_different_classes(self):
        for owner in CLASSES:
            for other in CLASSES:
                machine, twin = owner(HOLED, NEAR), other(HOLED, NEAR)
                self.assertIs(machine == twin, True)
                machine.unplug((0,))
                self.assertIs(machine == twin, False)
                twin.unplug((0,))
                self.assertEqual(machine == twin, machine.assignment == twin.assignment)
                if machine.assignment != twin.assignment:
                    (machine if owner in HOT else twin).settle()
                self.assertIs(machine == twin, True)
                self.assertIs(machine != twin, False)
        self.assertIs(HotMachine(T, ROOMS) == T, False)


class Logs(Refusals):
    def test_each_call_that_did_something_is_a_row(self):
        for owner in LOGGED:
            machine = owner(T, ROOMS)
            self.assertEqual(machine.log, ())
            calls = [("unplug", (0,)), ("plug", (0,), device("new")), ("mark", "east", ()), ("reserve", (8192, 16)),
                     ("release", (8192, 16)), ("undo",), ("run", []), ("run", [("unplug", (0,)), ("unplug", (1,))]), ("undo",)]
            if owner in HOT:
                calls += [("make_way", (), "far", 16), ("settle",), ("undo",)]
            rows = []
            for name, *arguments in calls:
                rows.append((name, getattr(machine, name)(*arguments)))
                self.assertEqual(machine.log, tuple(rows))
            for name, *arguments in (("unplug", ()), ("plug", None, None), ("mark", "zz", None), ("reserve", None),
                                     ("release", None), ("run", None), ("run", [None]), ("run", [("unplug", ())])):
                told(getattr(machine, name), *arguments)
                self.assertEqual(machine.log, tuple(rows))
            for _ in range(machine.version):
                rows.append(("undo", machine.undo()))
            self.refused(NothingToUndo, (), machine.undo)
            self.assertEqual(machine.log, tuple(rows))
            machine.follow(None, 0)
            machine.where("net")
            self.assertEqual(machine.log, tuple(rows))
            with self.assertRaises(AttributeError):
                machine.log = ()

    def test_within_a_run(self):
        for owner in LOGGED:
            machine = owner(T, ROOMS)
            machine.mark("east", ())
            twins = []

            def on_step(given):
                self.assertEqual(given.log, (("mark", 1),))
                twin = given.copy()
                self.assertEqual((twin.log, seen(twin)), (given.log, seen(given)))
                twin.unplug((1,))
                self.assertEqual(twin.log, (("mark", 1), ("unplug", given.version + 1)))
                self.assertEqual(given.log, (("mark", 1),))
                self.refused(Busy, (), given.undo)
                twins.append(twin)
                if len(twins) == 3:
                    raise KeyError(0)

            self.assertEqual(machine.run([("unplug", (0,)), ("reserve", (8192, 16))], on_step=on_step), 3)
            self.assertEqual(machine.log, (("mark", 1), ("run", 3)))
            machine = owner(T, ROOMS)
            machine.mark("east", ())
            self.assertRaises(KeyError, machine.run, [("unplug", (0,))], on_step=on_step)
            self.assertEqual((machine.log, machine.version), ((("mark", 1),), 1))

    def test_copies(self):
        for owner in LOGGED:
            machine = owner(T, ROOMS)
            machine.unplug((0,))
            twin = machine.copy()
            self.assertEqual(twin.log, machine.log)
            twin.undo()
            machine.mark("east", ())
            self.assertEqual(twin.log, (("unplug", 1), ("undo", 0)))
            self.assertEqual(machine.log, (("unplug", 1), ("mark", 2)))
            # The log does not matter for equality.
            machine.undo()
            machine.undo()
            self.assertEqual(machine, twin)

    def test_the_others_have_no_log(self):
        for owner in (Machine, HotMachine):
            self.assertIs(hasattr(owner(T, ROOMS), "log"), False)


class RandomCalls(unittest.TestCase):
    def test_against_the_words(self):
        words = {}
        for seed in range(40):
            start = some_tree(seed, sizes=(16, 32), bridges=3, devices=3, slots=4) if seed % 2 else SMALL
            rooms = ROOMS if seed % 3 == 0 else TIGHT
            if refusal(start, rooms) is not None:
                start = SMALL
            owner = HOT[seed // 2 % 2]
            machine, mirror, calls = owner(start, rooms), Mirror(start, rooms, hot=True), Calls(seed, hot=True)
            for _ in range(80):
                name, *arguments = calls.call(mirror)
                before = self.blocks(machine)
                answer = told(mirror.call, name, *arguments)
                self.assertEqual(told(getattr(machine, name), *arguments), answer, (name, arguments))
                words[answer[0] if isinstance(answer, tuple) else name] = True
                self.check(machine, mirror, name, before)
                if name == "make_way" and isinstance(answer, int):
                    self.check_way(machine, before, *arguments)
            if owner is LoggedHotMachine:
                self.assertEqual(machine.log, tuple(mirror.log))
        self.assertEqual(set(words), {
            "plug", "unplug", "mark", "reserve", "release", "make_way", "settle", "undo", "run", "BadTree", "NoSpace",
            "NoPart", "Taken", "Empty", "NoName", "BadMarks", "NoBlock", "Occupied", "NoKind", "NoSize", "NoWindow",
            "NothingToUndo", "BadEdits", "BadEdit", "Rejected", "TooManyEdits"})

    def blocks(self, machine):
        """Each block of the assignment, by the name of its part and its place in the row."""
        return {(row[0], at): block for row in machine.assignment
                for at, block in enumerate(row[1] if len(row) == 2 else row[1:]) if block is not None}

    def check(self, machine, mirror, name, before):
        self.assertEqual(seen(machine)[:7], (
            mirror.tree, mirror.rooms, mirror.reserved, mirror.free(), mirror.rows, len(mirror.done), mirror.edits()))
        self.assertTrue(assignment_holds(machine.tree, machine.free, machine.assignment))
        self.assertEqual(clashes(machine.tree, machine.assignment), ())
        if name in ("plug", "unplug", "mark", "reserve", "release"):
            behind = self.blocks(machine)
            for key in set(before) & set(behind):
                self.assertEqual(before[key], behind[key])
        for _, part in list(walked(machine.tree))[:3]:
            for index in range(len(part[2]) if part[0] == "device" else 0):
                self.assertEqual(reached(machine.tree, machine.assignment, part[1], index),
                                 (machine.where(part[1])[1][index],))

    def check_way(self, machine, before, path, kind, size):
        """There is a free block, and only what stands on the segment and is smaller has moved, with all in it."""
        behind, whole = self.blocks(machine), dict(walked(machine.tree)).get(path, machine.tree)
        at = ("far", "near").index(kind)
        room = (machine.where(whole[1])[1 + at],) if path else machine.free[at]
        standing = [(part[1], at) for part in whole[-1] if part is not None and part[0] == "bridge"]
        standing += [(part[1], index) for part in whole[-1] if part is not None and part[0] == "device"
                     for index, (other, _) in enumerate(part[2]) if other == kind]
        taken = [behind[key] for key in standing if key in behind]
        self.assertGreater(capacity(without(room, room_of(taken)), size), 0)
        offsets = {key: behind[key][0] - before[key][0] for key in before}
        for key in standing:
            if key in behind and behind[key][1] >= size:
                self.assertEqual(offsets[key], 0)
        for below, part in walked(machine.tree):
            for key in [key for key in offsets if key[0] == part[1] and key not in standing and offsets[key]]:
                # It goes with the window that stands on the segment and has it in it.
                self.assertEqual(below[:len(path)], path)
                above = dict(walked(machine.tree))[below[:len(path) + 1]][1]
                self.assertEqual(offsets[key], offsets[(above, at)])
                self.assertEqual((before[key][0] >= FAR), kind == "far")

    def test_equal_edits_make_equal_machines(self):
        for seed in range(12):
            machine, calls = HotMachine(SMALL, TIGHT), Calls(seed, hot=True)
            mirror = Mirror(SMALL, TIGHT, hot=True)
            for _ in range(40):
                name, *arguments = calls.call(mirror)
                told(mirror.call, name, *arguments)
                told(getattr(machine, name), *arguments)
            again = HotMachine(SMALL, TIGHT)
            for name, *arguments in machine.edits():
                getattr(again, name)(*arguments)
            self.assertEqual(seen(again), seen(machine))


if __name__ == "__main__":
    unittest.main()
