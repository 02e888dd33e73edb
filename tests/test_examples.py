"""The examples of the document, sections 1 to 13."""

import unittest

from buswindows.boards import Board, program
from buswindows.channels import followers, net_error, ring_holds, rising, stuck_run_holds
from buswindows.choices import best_sizes, kept
from buswindows.consoles import Console
from buswindows.covers import widened
from buswindows.errors import BadText
from buswindows.groups import chain, groups, may_hit
from buswindows.hot import LoggedHotMachine
from buswindows.links import can_stick
from buswindows.machines import Machine
from buswindows.moves import makes_room_holds, moved, staying
from buswindows.orders import forbidden
from buswindows.placings import count_placings, first_placing, placing_at, reason
from buswindows.requests import follow, reached
from buswindows.rooms import (
    address_at, address_index, addresses_in, capacity, common, room_error, room_of, stretch, union, without,
)
from buswindows.texts import parse_room, parse_tree, tree_text
from buswindows.trees import names_of, part_at, path_of, tree_error
from buswindows.walking import walk
from buswindows.windows import count_assignments, first_assignment, least_windows, refusal, wanted

T = ("tree", (), (
    ("device", "disk", (("far", 2 ** 20),)),
    ("bridge", "east", ("strict",), (("device", "net", (("near", 4096), ("near", 16))), None)),
))
ROOMS = (((2 ** 32, 2 ** 21),), ((0, 16384),))
SMALLER = (((2 ** 32, 2 ** 21),), ((0, 4096),))


class SectionOne(unittest.TestCase):
    def test_rooms(self):
        shown = [room_of(((48, 16), (0, 16), (16, 16))), room_error(((0, 32), (32, 32))), stretch(16, 112)]
        self.assertEqual(
            repr(shown), "[((0, 32), (48, 16)), (1, 'halves'), ((16, 16), (32, 32), (64, 32), (96, 16))]")

    def test_sets(self):
        shown = [union(((0, 16),), ((16, 16),)), common(((0, 64),), ((32, 16), (128, 16))),
                 without(((0, 64),), ((16, 16),))]
        self.assertEqual(repr(shown), "[((0, 32),), ((32, 16),), ((0, 16), (32, 32))]")

    def test_addresses(self):
        R = ((0, 16), (32, 32))
        shown = [addresses_in(R), address_at(R, 20), address_index(R, 40), capacity(R, 32), widened(R, 1)]
        self.assertEqual(repr(shown), "[48, 36, 24, 32, (((0, 64),), 16)]")


class SectionTwo(unittest.TestCase):
    def test_placings(self):
        shown = [reason(((0, 32), (64, 16)), (16, 16, 32)), reason(((0, 16), (32, 16)), (32,))]
        self.assertEqual(repr(shown), "[(16, 64, 48), (32, 32, 0)]")
        shown = [first_placing(((0, 64),), (16, 32, 16)), count_placings(((0, 64),), (16, 32, 16)),
                 placing_at(((0, 64),), (16, 32, 16), 3)]
        self.assertEqual(repr(shown), "[((32, 16), (0, 32), (48, 16)), 4, ((16, 16), (32, 32), (0, 16))]")


class SectionThree(unittest.TestCase):
    def test_trees(self):
        shown = [tree_error(T), names_of(T), path_of(T, "net"), part_at(T, (1, 1))]
        self.assertEqual(repr(shown), "[None, ('disk', 'east', 'net'), (1, 0), None]")


class SectionFour(unittest.TestCase):
    def test_windows(self):
        shown = [least_windows(T), wanted(T, "near"), count_assignments(T, ROOMS)]
        self.assertEqual(repr(shown), "[(('east', 0, 8192),), (8192,), 2048]")

    def test_assignments(self):
        self.assertEqual(
            repr(first_assignment(T, ROOMS)),
            "(('disk', ((4294967296, 1048576),)), ('east', None, (0, 8192)), ('net', ((0, 4096), (4096, 16))))")

    def test_refusals(self):
        self.assertEqual(repr(refusal(T, (((2 ** 32, 2 ** 19),), ((0, 4096),)))), "('far', (1048576, 1048576, 0))")


class SectionFive(unittest.TestCase):
    def test_choices(self):
        shown = [kept(T, SMALLER, ("net", "disk")), best_sizes(T, SMALLER, (("net", 0, (4096, 2048)),))]
        self.assertEqual(repr(shown), "[(('disk',), (('net', ('near', (8192, 8192, 0))),)), (2048,)]")


class SectionSix(unittest.TestCase):
    def test_requests(self):
        A = first_assignment(T, ROOMS)
        shown = [follow(T, A, None, 4100), follow(T, A, "net", 2 ** 32), follow(T, A, "net", 9000),
                 reached(T, A, "net", 1)]
        self.assertEqual(
            repr(shown), "[(('down', 'east'), ('hit', 'net', 1)), (('up', 'east'), ('hit', 'disk', 0)), "
            "(('up', 'east'), ('top',)), ((4096, 16),)]")


class SectionSeven(unittest.TestCase):
    def test_moves(self):
        shown = [moved(((0, 64),), ((0, 16), (32, 16)), ((1, 16),)),
                 makes_room_holds(((0, 64),), ((0, 16), (32, 16)), 32, ((1, 16),)),
                 staying(((0, 64),), ((0, 16), (32, 16)), 32)]
        self.assertEqual(repr(shown), "[((0, 16), (16, 16)), True, (0,)]")


class SectionEight(unittest.TestCase):
    def test_walking(self):
        board = Board(T, numbers=2 ** 24 - 1)
        shown = [board.read(0, 0, 0), board.read(0, 1, 1), board.read(0, 2, 0), walk(board.read, board.write)]
        self.assertEqual(
            repr(shown), "[1, 1, 4294967295, (('device', (0,), 1, ((0, 'far', 1048576),)), ('bridge', (1,), 2, 1, 1), "
            "('device', (1, 0), 3, ((0, 'near', 4096), (1, 'near', 16))))]")

    def test_program(self):
        board = Board(T)
        walk(board.read, board.write)
        program(board.write, T, first_assignment(T, ROOMS))
        self.assertIs(board.settings() == first_assignment(T, ROOMS), True)


class SectionNine(unittest.TestCase):
    def test_groups(self):
        U = ("tree", (), (("bridge", "e", ("strict",), (
            ("device", "a", (("near", 16),)), ("device", "b", (("near", 16),)))),))
        V = ("tree", (), (("bridge", "e", ("hiding", "strict"), (
            ("device", "a", (("near", 16),)), ("device", "b", (("near", 16),)))),))
        shown = [may_hit(T, "net", "disk"), may_hit(U, "a", "b"), groups(U), groups(V), chain(V, "a", "b")]
        self.assertEqual(
            repr(shown), "[True, False, (('a',), ('b',)), (('a', 'b'),), (('hiding', 'a', 'b', 'e'),)]")


class SectionTen(unittest.TestCase):
    def test_channels(self):
        N = (3, ((0, 1), (1, 2), (2, 0)), ((None, 0, 0), (1, None, 1), (2, 2, None)))
        shown = [net_error(N), followers(N), rising(N), ring_holds(N, ((0, 2), (1, 0), (2, 1))),
                 stuck_run_holds(N, 1, ((0, 2), (1, 0), (2, 1)))]
        self.assertEqual(repr(shown), "[None, ((0, 1), (1, 2), (2, 0)), None, True, True]")

    def test_rising(self):
        shown = rising((3, ((0, 1), (1, 2)), ((None, 0, 0), (None, None, 1), (None, None, None))))
        self.assertEqual(repr(shown), "(0, 1)")


class SectionEleven(unittest.TestCase):
    def test_links(self):
        shown = [can_stick(()), can_stick((), reads=1), can_stick((("answer", "read"), ("answer", "write")))]
        self.assertEqual(repr(shown), "[True, False, False]")

    def test_orders(self):
        W = ("tree", (), (("device", "p", ()), ("device", "c", ()), ("device", "d", ()), ("device", "f", ())))
        shown = [forbidden(W, "p", "c", "d", "f"), forbidden(W, "p", "c", "c", "f"), forbidden(W, "p", "c", "p", "f")]
        self.assertEqual(repr(shown), "[(('read', 'write'),), (('answer', 'write'),), ()]")


class SectionTwelve(unittest.TestCase):
    def test_machines(self):
        machine = LoggedHotMachine(T, ROOMS)
        shown = [str(machine), machine.unplug((0,)), machine.where("net"), machine.log,
                 machine.plug((0,), ("device", "new", (("near", 8192),))), machine.where("new")]
        self.assertEqual(
            repr(shown), "['2 devices, 1 bridges, 3 areas, 0 edits', 1, ('net', ((0, 4096), (4096, 16))), "
            "(('unplug', 1),), 2, ('new', ((8192, 8192),))]")


class SectionThirteen(unittest.TestCase):
    def test_texts(self):
        shown = [tree_text(T), parse_room("0^5 64^4"), parse_tree(tree_text(T)) == T]
        self.assertEqual(repr(shown), "['(disk[f20],east+s(net[n12,n4],-))', ((0, 32), (64, 16)), True]")
        with self.assertRaises(BadText) as caught:
            parse_tree("(a[f04])")
        self.assertEqual(caught.exception.index, 5)

    def test_consoles(self):
        console = Console(Machine(T, ROOMS))
        shown = [console.execute("ask 4100"), console.execute("where east"), console.execute("unplug 0"),
                 console.execute("unplug 0"), console.execute("unplug  0")]
        self.assertEqual(
            repr(shown), "['down:east hit:net:1', '- 0^13', 'ok 1', 'error Empty', 'unknown command']")


if __name__ == "__main__":
    unittest.main()
