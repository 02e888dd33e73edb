"""Point 2 over several modules: what holds of each machine that edits make."""

import unittest

from bench import ROOMS, SMALL, TIGHT, seen, told
from buswindows.boards import Board, program
from buswindows.consoles import Console
from buswindows.groups import chain, chain_holds, groups, hit_holds, hit_shown, may_hit
from buswindows.hot import HotMachine, LoggedHotMachine
from buswindows.machines import Machine
from buswindows.requests import are_settings, clashes, follow, reached
from buswindows.rooms import room_error
from buswindows.texts import parse_room, parse_tree, room_text, tree_text
from buswindows.trees import names_of, tree_error
from buswindows.walking import walk
from buswindows.windows import assignment_holds, refusal
from mirror import Calls, Mirror
from plain import edges, some_tree, walked


def edited(count=14, calls=25):
    """Machines of all kinds behind random calls."""
    for seed in range(count):
        owner = (Machine, HotMachine, LoggedHotMachine)[seed % 3]
        start, rooms = (some_tree(seed, bridges=3, devices=4), ROOMS) if seed % 2 else (SMALL, TIGHT)
        if refusal(start, rooms) is not None:
            start, rooms = SMALL, TIGHT
        machine, mirror = owner(start, rooms), Mirror(start, rooms, owner is not Machine)
        source = Calls(seed + 100, owner is not Machine)
        for _ in range(calls):
            name, *arguments = source.call(mirror)
            if name != "undo":
                told(mirror.call, name, *arguments)
                told(getattr(machine, name), *arguments)
        yield machine


class Whole(unittest.TestCase):
    def test_the_machines_have_something_in_them(self):
        machines = list(edited())
        self.assertGreater(sum(len(names_of(machine.tree)) for machine in machines), 4 * len(machines))
        self.assertTrue(any(machine.reserved for machine in machines))

    def test_boards_and_walking(self):
        for machine in edited():
            whole = machine.tree
            board = Board(whole, numbers=2 ** 24 - 1)
            rows = walk(board.read, board.write)
            self.assertEqual([row[1] for row in rows], [path for path, _ in walked(whole)])
            self.assertEqual([row[0] for row in rows], [part[0] for _, part in walked(whole)])
            program(board.write, whole, machine.assignment)
            self.assertTrue(are_settings(whole, machine.assignment))
            # Nobody claims anything with a device whose areas are none.
            self.assertEqual(board.settings(), machine.assignment)

    def test_requests(self):
        for machine in edited():
            whole, rows = machine.tree, machine.assignment
            self.assertTrue(assignment_holds(whole, machine.free, rows))
            self.assertEqual(clashes(whole, rows), ())
            devices = [part[1] for _, part in walked(whole) if part[0] == "device"]
            for address in edges(rows)[::3]:
                hits = set()
                for origin in [None] + devices:
                    steps = machine.follow(origin, address)
                    self.assertEqual(steps, follow(whole, rows, origin, address))
                    self.assertNotEqual(steps[-1][0], "clash")
                    if steps[-1][0] == "hit":
                        hits.add(steps[-1])
                        if origin is not None:
                            self.assertIs(hit_holds(whole, origin, steps[-1][1], (rows, address)), True)
                            self.assertIs(may_hit(whole, origin, steps[-1][1]), True)
                self.assertLessEqual(len(hits), 1)
            for name in devices:
                for index, block in enumerate(machine.where(name)[1]):
                    self.assertEqual(reached(whole, rows, name, index), (block,))

    def test_groups(self):
        for machine in edited():
            whole = machine.tree
            found = groups(whole)
            devices = [part[1] for _, part in walked(whole) if part[0] == "device"]
            self.assertEqual(sorted(name for group in found for name in group), sorted(devices))
            for one in devices:
                for other in devices:
                    shown = hit_shown(whole, one, other)
                    self.assertEqual(shown is not None, may_hit(whole, one, other))
                    self.assertEqual(chain(whole, one, other) is not None,
                                     any(one in group and other in group for group in found))
                    self.assertIs(chain_holds(whole, one, other, chain(whole, one, other)),
                                  chain(whole, one, other) is not None)

    def test_texts(self):
        for machine in edited():
            console = Console(machine)
            self.assertIsNone(tree_error(machine.tree))
            self.assertEqual(parse_tree(console.execute("tree")), machine.tree)
            self.assertEqual(console.execute("tree"), tree_text(machine.tree))
            for kind, room in zip(("far", "near"), machine.free):
                self.assertIsNone(room_error(room))
                self.assertEqual(console.execute("free " + kind), room_text(room))
                self.assertEqual(parse_room(room_text(room)), room)

    def test_only_the_edits_in_effect_matter(self):
        for machine in edited():
            again = type(machine)(machine.tree_at(0), machine.rooms)
            for name, *arguments in machine.edits():
                again.settle() if name == "settle" else getattr(again, name)(*arguments)
            self.assertEqual(seen(again), seen(machine))
            self.assertEqual(again, machine)
            while machine.version:
                machine.undo()
            self.assertEqual(seen(machine), seen(type(machine)(machine.tree, machine.rooms)))


if __name__ == "__main__":
    unittest.main()
