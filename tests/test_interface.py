"""Point 36: names, arguments, and where each function is defined."""

import inspect
import unittest

from buswindows import (
    boards, bounds, channels, choices, consoles, covers, errors, groups, hot, links, machines, moves, orders, placings,
    requests, rooms, texts, trees, walking, windows,
)

T = ("tree", (), (("device", "a", (("far", 16), ("near", 16))), ("bridge", "b", (), (None,))))
ROOMS = (((2 ** 32, 32),), ((0, 16),))

FUNCTIONS = {
    rooms: {
        "is_size": "(value)", "is_block": "(value)", "room_error": "(value)", "room_of": "(blocks)",
        "stretch": "(low, high)", "union": "(one, other)", "common": "(one, other)", "without": "(one, other)",
        "addresses_in": "(room)", "address_at": "(room, index)", "address_index": "(room, address)",
        "capacity": "(room, size)",
    },
    covers: {"widened": "(room, limit)"},
    placings: {
        "can_place": "(room, sizes)", "reason": "(room, sizes)", "placing_holds": "(room, sizes, value)",
        "reason_holds": "(room, sizes, value)", "first_placing": "(room, sizes)", "count_placings": "(room, sizes)",
        "placing_at": "(room, sizes, index)", "placing_index": "(room, sizes, placing)",
        "each_placing": "(room, sizes, *, start=0)",
    },
    trees: {
        "tree_error": "(value)", "part_at": "(tree, path)", "path_of": "(tree, name)", "names_of": "(tree)",
        "with_part": "(tree, path, part)", "only": "(tree, names)",
    },
    windows: {
        "least_windows": "(tree)", "wanted": "(tree, kind)", "refusal": "(tree, rooms)",
        "assignment_holds": "(tree, rooms, value)", "refusal_holds": "(tree, rooms, value)",
        "first_assignment": "(tree, rooms)", "count_assignments": "(tree, rooms)",
        "assignment_at": "(tree, rooms, index)", "assignment_index": "(tree, rooms, assignment)",
    },
    choices: {
        "kept": "(tree, rooms, names)", "best_sizes": "(tree, rooms, offers)", "with_sizes": "(tree, offers, sizes)",
    },
    requests: {
        "are_settings": "(tree, value)", "follow": "(tree, settings, origin, address)", "clashes": "(tree, settings)",
        "reached": "(tree, settings, name, index)",
    },
    moves: {
        "moved": "(room, standing, value)", "make_room": "(room, standing, size)",
        "makes_room_holds": "(room, standing, size, value)", "can_stay": "(room, standing, size, value)",
        "staying": "(room, standing, size)",
    },
    boards: {"program": "(write, tree, settings)", "Board": "(tree, *, numbers=0)"},
    walking: {"walk": "(read, write)"},
    groups: {
        "may_hit": "(tree, one, other)", "hit_shown": "(tree, one, other)",
        "hit_holds": "(tree, one, other, value)", "groups": "(tree)", "chain": "(tree, one, other)",
        "chain_holds": "(tree, one, other, value)",
    },
    channels: {
        "net_error": "(value)", "followers": "(net)", "rising": "(net)", "rising_holds": "(net, value)",
        "ring": "(net)", "ring_holds": "(net, value)", "stuck_run": "(net, places)",
        "stuck_run_holds": "(net, places, value)", "Traffic": "(net, *, places=1)",
    },
    links: {
        "Link": "(rules, *, writes=1, reads=2, answers=1)", "can_stick": "(rules, *, reads=2, answers=1)",
        "sticking_run": "(rules, *, reads=2, answers=1)",
        "sticking_run_holds": "(rules, value, *, reads=2, answers=1)",
    },
    orders: {"forbidden": "(tree, producer, consumer, data, flag)"},
    machines: {"Machine": "(tree, rooms)"},
    hot: {
        "HotMachine": "(tree, rooms)", "LoggedMachine": "(tree, rooms)", "LoggedHotMachine": "(tree, rooms)",
    },
    texts: {
        "room_text": "(room)", "tree_text": "(tree)", "parse_room": "(text)", "parse_tree": "(text)",
    },
    consoles: {"Console": "(machine)"},
}

# The methods of a class with their arguments, and its properties.
METHODS = {
    boards.Board: {"read": "(self, bus, slot, index)", "write": "(self, bus, slot, index, value)",
                   "settings": "(self)"},
    channels.Traffic: {"send": "(self, station, goal)", "step": "(self, channel)", "is_stuck": "(self)",
                       "drain": "(self)", "__len__": "(self)", "__eq__": "(self, other)"},
    links.Link: {"send": "(self, direction, kind)", "leave": "(self, direction, place)",
                 "queue": "(self, direction)", "drain": "(self)", "__len__": "(self)"},
    machines.Machine: {
        "plug": "(self, path, part)", "unplug": "(self, path)", "mark": "(self, name, marks)",
        "reserve": "(self, block)", "release": "(self, block)", "undo": "(self)",
        "run": "(self, edits, *, on_step=None)", "follow": "(self, origin, address)", "where": "(self, name)",
        "edits": "(self)", "tree_at": "(self, version)", "copy": "(self)", "__len__": "(self)", "__str__": "(self)",
        "__eq__": "(self, other)",
    },
    hot.HotMachine: {"make_way": "(self, path, kind, size)", "settle": "(self)"},
    consoles.Console: {"execute": "(self, line)"},
}
PROPERTIES = {
    channels.Traffic: ("queues", "arrived"),
    machines.Machine: ("tree", "rooms", "reserved", "free", "assignment", "version"),
    hot.LoggedMachine: ("log",),
    consoles.Console: ("history",),
}


class Interface(unittest.TestCase):
    def test_functions_stand_in_their_file_with_their_arguments(self):
        for module, functions in FUNCTIONS.items():
            for name, arguments in functions.items():
                with self.subTest(name=name):
                    function = getattr(module, name)
                    self.assertEqual(function.__module__, module.__name__)
                    self.assertEqual(str(inspect.signature(function)), arguments)

    def test_methods_stand_in_their_class_with_their_arguments(self):
        for owner, methods in METHODS.items():
            for name, arguments in methods.items():
                with self.subTest(name=name):
                    self.assertEqual(str(inspect.signature(vars(owner)[name])), arguments)

    def test_properties_stand_in_their_class_and_are_only_read(self):
        for owner, names in PROPERTIES.items():
            for name in names:
                with self.subTest(name=name):
                    self.assertIsInstance(vars(owner)[name], property)
                    self.assertIsNone(vars(owner)[name].fset)

    def test_the_class_method_stands_in_its_class(self):
        self.assertIsInstance(vars(machines.Machine)["is_edit"], classmethod)
        self.assertEqual(str(inspect.signature(machines.Machine.is_edit)), "(value)")

    def test_errors_stand_in_their_file(self):
        for name, item in vars(errors).items():
            if inspect.isclass(item):
                self.assertEqual(item.__module__, "buswindows.errors", name)

    def test_kinds_of_results(self):
        room = ((0, 16), (32, 32))
        for value, kind in (
            (rooms.is_size(16), bool), (rooms.is_size(0), bool), (rooms.is_block((0, 16)), bool),
            (rooms.is_block(()), bool), (rooms.room_error(None), tuple), (rooms.room_of([]), tuple),
            (rooms.stretch(0, 0), tuple), (rooms.union(room, ()), tuple), (rooms.common(room, ()), tuple),
            (rooms.without(room, ()), tuple), (rooms.addresses_in(room), int), (rooms.addresses_in(()), int),
            (rooms.address_at(room, 0), int), (rooms.address_index((), bounds.SPACE), int),
            (rooms.capacity((), 16), int), (covers.widened(room, 1), tuple), (covers.widened((), 1), tuple),
        ):
            self.assertIs(type(value), kind)

    def test_kinds_of_results_about_placings_and_trees(self):
        room = ((0, 16), (32, 32))
        for value, kind in (
            (placings.can_place(room, ()), bool), (placings.reason(room, (64,)), tuple),
            (placings.placing_holds(room, (), ()), bool), (placings.reason_holds(room, (), ()), bool),
            (placings.first_placing(room, (16,)), tuple), (placings.placing_at(room, (16,), 0), tuple),
            (placings.count_placings(room, ()), int), (placings.placing_index(room, (), ()), int),
            (next(placings.each_placing(room, ())), tuple), (trees.tree_error(None), tuple),
            (trees.part_at(T, ()), tuple),
            (trees.path_of(T, "b"), tuple), (trees.names_of(T), tuple), (trees.with_part(T, (1, 0), None), tuple),
            (trees.only(T, ()), tuple),
        ):
            self.assertIs(type(value), kind)

    def test_kinds_of_results_about_assignments(self):
        first = windows.first_assignment(T, ROOMS)
        for value, kind in (
            (windows.least_windows(T), tuple), (windows.wanted(T, "far"), tuple), (windows.refusal(T, ((), ())), tuple),
            (windows.assignment_holds(T, ROOMS, ()), bool), (windows.assignment_holds(T, ROOMS, first), bool),
            (windows.refusal_holds(T, ROOMS, ()), bool), (first, tuple), (windows.assignment_at(T, ROOMS, 1), tuple),
            (windows.count_assignments(T, ROOMS), int), (windows.assignment_index(T, ROOMS, first), int),
            (choices.kept(T, ROOMS, ("a",)), tuple), (choices.best_sizes(T, ROOMS, ()), tuple),
            (choices.with_sizes(T, (), ()), tuple), (requests.are_settings(T, first), bool),
            (requests.are_settings(T, ()), bool), (requests.follow(T, first, None, 0), tuple),
            (requests.clashes(T, first), tuple), (requests.reached(T, first, "a", 0), tuple),
        ):
            self.assertIs(type(value), kind)

    def test_kinds_of_results_about_moves_and_registers(self):
        room = ((0, 64),)
        board = boards.Board(T)
        for value, kind in (
            (moves.moved(room, (), ()), tuple), (moves.make_room(room, (), 64), tuple),
            (moves.staying(room, (), 64), tuple), (moves.makes_room_holds(room, (), 64, ()), bool),
            (moves.makes_room_holds(room, (), 64, None), bool), (moves.can_stay(room, (), 64, ()), bool),
            (moves.can_stay(room, (), 64, None), bool), (board.read(0, 0, 0), int), (board.settings(), tuple),
            (walking.walk(board.read, board.write), tuple),
        ):
            self.assertIs(type(value), kind)
        self.assertIsNone(boards.program(board.write, T, board.settings()))

    def test_kinds_of_results_about_groups_channels_and_links(self):
        net = (2, ((0, 1),), ((None, 0), (None, None)))
        round_net = (3, ((0, 1), (1, 2), (2, 0)), ((None, 0, 0), (1, None, 1), (2, 2, None)))
        traffic = channels.Traffic(net)
        link = links.Link(())
        for value, kind in (
            (groups.may_hit(T, "a", "a"), bool), (groups.hit_holds(T, "a", "a", None), bool),
            (groups.chain_holds(T, "a", "a", ()), bool), (groups.groups(T), tuple), (groups.chain(T, "a", "a"), tuple),
            (channels.net_error(None), tuple), (channels.followers(net), tuple), (channels.rising(net), tuple),
            (channels.ring(round_net), tuple), (channels.stuck_run(round_net, 1), tuple),
            (channels.rising_holds(net, (0,)), bool), (channels.rising_holds(net, None), bool),
            (channels.ring_holds(round_net, channels.ring(round_net)), bool), (channels.ring_holds(net, ()), bool),
            (channels.stuck_run_holds(net, 1, ()), bool), (traffic.send(0, 1), type(None)), (traffic.step(0), type(None)),
            (traffic.queues, tuple), (traffic.arrived, int), (traffic.is_stuck(), bool), (traffic.drain(), int),
            (len(traffic), int), (link.send("up", "read"), type(None)), (link.leave("up", 0), type(None)),
            (link.queue("up"), tuple), (link.drain(), int), (links.can_stick(()), bool),
            (links.can_stick((), reads=1), bool), (links.sticking_run(()), tuple),
            (links.sticking_run_holds((), ()), bool), (links.sticking_run_holds((), None), bool),
            (orders.forbidden(T, None, None, None, None), tuple),
        ):
            self.assertIs(type(value), kind)

    def test_kinds_of_results_of_machines_texts_and_consoles(self):
        machine = hot.LoggedHotMachine(T, ROOMS)
        console = consoles.Console(machine)
        for value, kind in (
            (machine.is_edit(("settle",)), bool), (machine.is_edit(None), bool), (machine.mark("b", ("strict",)), int),
            (machine.plug((1, 0), ("device", "c", ())), int), (machine.unplug((1, 0)), int), (machine.undo(), int),
            (machine.run([]), int), (machine.settle(), int), (machine.make_way((), "far", 16), int),
            (machine.unplug((0,)), int), (machine.reserve((0, 16)), int), (machine.release((0, 16)), int),
            (machine.tree, tuple), (machine.rooms, tuple), (machine.reserved, tuple), (machine.free, tuple),
            (machine.assignment, tuple), (machine.version, int), (machine.follow(None, 0), tuple),
            (machine.where("b"), tuple), (machine.edits(), tuple), (machine.tree_at(0), tuple),
            (machine.copy(), hot.LoggedHotMachine), (len(machine), int), (str(machine), str),
            (machine == machine.copy(), bool), (machine.log, tuple), (texts.room_text(()), str),
            (texts.tree_text(T), str), (texts.parse_room("-"), tuple), (texts.parse_tree("()"), tuple),
            (console.execute("undo"), str), (console.execute(None), str), (console.history, tuple),
        ):
            self.assertIs(type(value), kind)


if __name__ == "__main__":
    unittest.main()
