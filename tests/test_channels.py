"""Points 2, 3, 22 and 23: nets, rising numbers and rings."""

import copy
import random
import unittest

from buswindows.channels import followers, net_error, ring, ring_holds, rising, rising_holds
from nets import can_get_stuck, line_net, longest_row, pairs_of, plain_net_error, ring_net, some_net
from samples import HUGE, OTHERS

N = (3, ((0, 1), (1, 2), (2, 0)), ((None, 0, 0), (1, None, 1), (2, 2, None)))
EMPTY = (1, (), ((None,),))
SILENT = (2, ((0, 1),) * 16, ((None, None), (None, None)))
NETS = [N, EMPTY, SILENT, ring_net(8, [(0, 4)] * 8), line_net(8), ring_net(2), line_net(2)]
NETS += [some_net(seed, 3 + seed % 6, 4 + seed % 13) for seed in range(160)]


def changed(value, path, item):
    """A nested tuple with another item at a path of indexes."""
    if not path:
        return item
    return value[:path[0]] + (changed(value[path[0]], path[1:], item),) + value[path[0] + 1:]


class NetError(unittest.TestCase):
    def check(self, value, error):
        self.assertEqual(plain_net_error(value), error, value)
        self.assertEqual(net_error(value), error, value)

    def test_nets(self):
        for net in NETS:
            self.check(net, None)

    def test_form(self):
        for value in OTHERS + [HUGE, list(N), N[:2], N + (None,)]:
            self.check(value, (None, "stations" if value == (0, 16, 16) else "net"))
        for value in OTHERS + [0, 9, True, HUGE]:
            self.check((value, N[1], N[2]), (None, "stations"))
        self.check((False, (), ()), (None, "stations"))
        for value in OTHERS + [list(N[1]), (N[1][0],) * 17]:
            if not isinstance(value, tuple) or len(value) > 16:
                self.check((3, value, N[2]), (None, "channels"))
            elif value:
                self.check((3, value, N[2]), (0, "channel"))

    def test_channels(self):
        for at in range(3):
            for value in OTHERS + [[0, 1], (0, 1, 2), (0,), (0, 3), (3, 0), (1, 1), (-1, 0), (0, True), (False, 1),
                                   ("0", "1"), (0, HUGE), (0, None)]:
                self.check(changed(N, (1, at), value), (at, "channel"))
        self.check((3, ((0, 1), (1, 1), None), None), (1, "channel"))

    def test_table(self):
        for value in OTHERS + [list(N[2]), N[2][:2], N[2] + (N[2][0],)]:
            if not isinstance(value, tuple) or len(value) != 3:
                self.check((3, N[1], value), (None, "table"))
        for at in range(3):
            for value in OTHERS + [list(N[2][at]), N[2][at][:2], N[2][at] + (None,), ()]:
                if not isinstance(value, tuple) or len(value) != 3:
                    self.check(changed(N, (2, at), value), (at, "row"))
        self.check((3, N[1], ((None, 9, 9), (None,), None)), (1, "row"))

    def test_cells(self):
        for station in range(3):
            for goal in range(3):
                for value in OTHERS + [3, -1, True, False, HUGE, (station + 1) % 3, "0", (0,)]:
                    if value is not None:
                        self.check(changed(N, (2, station, goal), value), ((station, goal), "cell"))
        for station in range(3):
            self.check(changed(N, (2, station, station), station), ((station, station), "cell"))
        # The row of a station is looked at behind all rows before, and only then what is endless.
        self.check((2, ((0, 1),), ((None, 7), (7, None))), ((0, 1), "cell"))
        self.check((3, ((0, 1), (1, 0)), ((None, None, 0), (None, None, 1), (None, 0, None))), ((2, 1), "cell"))

    def test_endless(self):
        self.check((3, ((0, 1), (1, 0)), ((None, None, 0), (None, None, 1), (None,) * 3)), ((0, 2), "endless"))
        self.check((3, ((0, 1), (1, 2)), ((None, None, 0), (None,) * 3, (None,) * 3)), ((0, 2), "endless"))
        self.check((3, ((0, 1), (1, 0)), ((None, 0, None), (1, None, None), (None,) * 3)), None)
        # A way that takes all stations is none too many.
        for many in range(3, 9):
            self.check(ring_net(many), None)
            self.check(changed(ring_net(many), (2, many - 1, 0), None), ((1, 0), "endless"))

    def test_random_changes(self):
        source = random.Random(3)
        words = set()
        for net in NETS[3:] * 3:
            paths = [(0,), (1,), (2,)] + [(1, at) for at in range(len(net[1]))] + [(2, at) for at in range(net[0])]
            paths += [(2, at, goal) for at in range(net[0]) for goal in range(net[0])] * 4
            cells = [None] + list(range(len(net[1]) + 1))
            # The last change is the one that is shortest, so that all others are within what is still there.
            for path in sorted(source.choices(paths, k=source.randrange(1, 4)), key=len, reverse=True):
                item = source.choice(OTHERS + [source.randrange(10), (source.randrange(8), source.randrange(8))])
                net = changed(net, path, source.choice(cells) if len(path) == 3 else item)
            self.check(net, plain_net_error(net))
            words.add((net_error(net) or (None, None))[1])
        self.assertEqual(words, {None, "stations", "channels", "channel", "table", "row", "cell", "endless"})

    def test_a_net_of_changed_channels_is_told_by_its_cells(self):
        for net in NETS:
            for at in range(len(net[1])):
                begin, end = net[1][at]
                value = changed(net, (1, at), (end, begin))
                self.check(value, plain_net_error(value))


class Followers(unittest.TestCase):
    def test_against_the_words(self):
        for net in NETS:
            self.assertEqual(followers(net), tuple(sorted({(c, d) for c, d, _ in pairs_of(net)})))

    def test_some(self):
        self.assertEqual(followers(EMPTY), ())
        self.assertEqual(followers(SILENT), ())
        self.assertEqual(followers(line_net(4)), ((0, 1), (1, 2), (4, 3), (5, 4)))


class Rising(unittest.TestCase):
    def test_against_the_longest_rows(self):
        told = set()
        for net in NETS:
            lengths = tuple(longest_row(net, channel) for channel in range(len(net[1])))
            expected = None if None in lengths else lengths
            self.assertEqual(rising(net), expected)
            told.add(expected is None)
            if expected is not None:
                self.assertIs(rising_holds(net, expected), True)
        self.assertEqual(told, {True, False})

    def test_exactly_one_of_both(self):
        for net in NETS:
            self.assertNotEqual(rising(net) is None, ring(net) is None)

    def test_the_longest_row(self):
        self.assertEqual(rising(line_net(8)), (0, 1, 2, 3, 4, 5, 6, 6, 5, 4, 3, 2, 1, 0))
        self.assertEqual(rising(EMPTY), ())
        self.assertEqual(rising(SILENT), (0,) * 16)
        self.assertIsNone(rising(ring_net(8)))
        self.assertEqual(rising(ring_net(2)), (0, 0))

    def test_numbers_of_all_kinds(self):
        net = (3, ((0, 1), (1, 2), (2, 1)), ((None, 0, 0), (None, None, 1), (None, 2, None)))
        self.assertEqual(followers(net), ((0, 1),))
        for value, good in (((0, 1, 0), True), ((-HUGE, HUGE, 0), True), ((1, 1, 0), False), ((1, 0, 9), False),
                            ((False, True, 0), False), ((0, 1, True), False), ((0, 1), False), ((0, 1, 0, 0), False),
                            ([0, 1, 0], False), ((0, 1, None), False), ((0, "1", 0), False)):
            self.assertIs(rising_holds(net, value), good, value)
        for value in OTHERS + [HUGE]:
            self.assertIs(rising_holds(net, value), value == (0, 16, 16))
            self.assertIs(rising_holds(net, (0, value, 0)), type(value) is int and value > 0)
            self.assertIs(rising_holds(EMPTY, value), value == ())
            self.assertIs(rising_holds(N, value), False)

    def test_random_numbers(self):
        source = random.Random(9)
        for net in NETS:
            pairs = followers(net)
            for _ in range(20):
                value = tuple(source.randrange(-2, 4) for _ in net[1])
                self.assertIs(rising_holds(net, value), all(value[c] < value[d] for c, d in pairs))


class Rings(unittest.TestCase):
    def is_ring(self, net, value):
        """Whether rows of a channel and a goal, with the right kinds, are a ring."""
        channels = [channel for channel, _ in value]
        follow = [(c, goal, d) for c, d, goal in pairs_of(net)]
        rows = list(zip(value, channels[1:] + channels[:1]))
        return len(value) > 1 and len(set(channels)) == len(channels) and all(
            (channel, goal, after) in follow for (channel, goal), after in rows)

    def test_rings_hold(self):
        for net in NETS:
            found = ring(net)
            self.assertEqual(found, ring(net))
            self.assertIs(ring_holds(net, found), found is not None)
            if found is not None:
                self.assertIs(type(found), tuple)
                self.assertTrue(self.is_ring(net, found))
                for turn in range(len(found)):
                    self.assertIs(ring_holds(net, found[turn:] + found[:turn]), True)
                    self.assertIs(ring_holds(net, found[:turn] + found[turn + 1:]),
                                  self.is_ring(net, found[:turn] + found[turn + 1:]))
                self.assertIs(ring_holds(net, found + found), False)
                self.assertIs(ring_holds(net, list(found)), False)

    def test_random_rows(self):
        source = random.Random(4)
        good = 0
        for net in NETS:
            follow = pairs_of(net)
            wrong = [(0, 0), (len(net[1]), 0), (0, net[0]), (-1, 0)]
            for _ in range(60 if follow else 0):
                row = source.choice(follow)
                value = [(row[0], row[2])]
                for _ in range(source.randrange(9)):
                    row = source.choice([other for other in follow if other[0] == row[1]] or [row])
                    value.append((row[0], row[2]) if source.random() < 0.97 else source.choice(wrong))
                value = tuple(value)
                self.assertIs(ring_holds(net, value), self.is_ring(net, value))
                good += self.is_ring(net, value)
        self.assertGreater(good, 20)

    def test_other_values_do_not_hold(self):
        good = ((0, 2), (1, 0), (2, 1))
        self.assertIs(ring_holds(N, good), True)
        for value in OTHERS + [HUGE]:
            self.assertIs(ring_holds(N, value), False)
            self.assertIs(ring_holds(EMPTY, value), False)
            for at in range(3):
                self.assertIs(ring_holds(N, changed(good, (at,), value)), False)
                self.assertIs(ring_holds(N, changed(good, (at, 0), value)), False)
                self.assertIs(ring_holds(N, changed(good, (at, 1), value)), False)
        for wrong in (
            ((False, 2), (1, 0), (2, 1)), ((0, 2), (True, 0), (2, 1)), ((0, 2), (1, False), (2, 1)),
            ((0, 2), (1, 0), (2, True)), ([0, 2], (1, 0), (2, 1)), ((0, 2, 0), (1, 0), (2, 1)), ((0,), (1, 0), (2, 1)),
            ((0, 1), (1, 0), (2, 1)), ((0, 2), (2, 1), (1, 0)), ((0, 2),), (), good[:2], good + good[:1],
            ((0, 0), (1, 0), (2, 1)), ((0, 2), (1, 0), (2, 3)), ((0, 2), (1, 0), (3, 1)), ((0, 2), (1, 0), (-1, 1)),
        ):
            self.assertIs(ring_holds(N, wrong), False, wrong)
        self.assertIs(ring_holds(ring_net(2), ((0, 1), (1, 0))), False)
        self.assertIs(ring_holds(EMPTY, ((-1, 0), (-1, 0))), False)

    def test_the_greatest_ring(self):
        self.assertEqual(sorted(channel for channel, _ in ring(ring_net(8))), list(range(8)))

    def test_traffic_can_get_stuck_exactly_if_there_is_a_ring(self):
        told = set()
        for net in [N, EMPTY, ring_net(2), line_net(3), ring_net(4)] + [some_net(seed, 4, 6) for seed in range(60)]:
            if len(pairs_of(net)) <= 9:
                self.assertIs(can_get_stuck(net), ring(net) is not None)
                told.add(ring(net) is None)
        self.assertEqual(told, {True, False})


class Calls(unittest.TestCase):
    def test_arguments_stay_as_they_are(self):
        value = [[0, 2], {"a": [1]}]
        kept = copy.deepcopy(value)
        for function in (net_error, followers, rising, ring):
            self.assertEqual(function(N), function(N))
        for function in (rising_holds, ring_holds):
            self.assertIs(function(N, value), function(N, value))
        net_error(value)
        self.assertEqual(value, kept)


if __name__ == "__main__":
    unittest.main()
