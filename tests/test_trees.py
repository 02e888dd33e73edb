"""Points 2, 3 and 7: trees, what is wrong with values that are none, paths and parts."""

import copy
import itertools
import random
import unittest

from buswindows.errors import BadTree, BusError, NoName, NoPart
from buswindows.trees import names_of, only, part_at, path_of, tree_error, with_part
from plain import bridge, device, some_tree, tree, walked
from samples import HUGE, OTHERS

NAMES = ["".join(pair) for pair in itertools.product("abcdefgh", repeat=2)]
MARKS = [(), ("hiding",), ("strict",), ("hiding", "strict")]
BAD_MARKS = [("strict", "hiding"), ("strict", "strict"), ("hiding", "hiding"), ["strict"], [], "strict", None, True, 0,
             ("Strict",), ("",), (None,), (("strict",),), ("hiding", "strict", "strict"), {"strict": True}, ("none",),
             ("hiding", None), "", (True,), ("hidin",)]
BAD_NAMES = ["", "A", "a1", "a b", "a_b", "abcdefghi", "a" * 2000, "a.", "a\n", None, True, 0, 7, ("a",), ["a"], b"a",
             "Abc", "z[", "-", {"a": 1}, ()]
BAD_AREAS = [("far", 8), ("far", 0), ("far", -16), ("far", 17), ("far", 24), ("far", 2 ** 41), ("near", 2 ** 32),
             ("near", 2 ** 40), ("near", 8), ("near", 48), ("far",), ("far", 16, 16), ["far", 16], ("Far", 16),
             ("", 16), (None, 16), (16, "far"), ("far", "16"), ("far", None), ("far", True), ("far", 16.0), None, (),
             "far", 16, ("far", HUGE), ("near", -HUGE), (["far"], 16), ("far", (16,)), ("far near", 16), ({}, 16),
             ("far", [16]), True, ("device", 16)]


def chained(many, last=()):
    """A tree of so many bridges, one below another."""
    below = last
    for name in reversed(NAMES[:many]):
        below = (bridge(name, *below),)
    return tree(*below)


def plain_error(value):
    """What tree_error tells, by the words of point 7."""
    def row(part, word, many):
        return type(part) is tuple and len(part) == many and part[0] == word

    def few(parts, many):
        return type(parts) is tuple and len(parts) <= many

    if not row(value, "tree", 3):
        return ((), "tree")
    if value[1] != () and value[1] != ("strict",):
        return ((), "marks")
    if not few(value[2], 8):
        return ((), "parts")
    before = []
    ahead = [((slot,), part, 0) for slot, part in enumerate(value[2])]
    while ahead:
        path, part, above = ahead.pop(0)
        if part is None:
            continue
        if row(part, "device", 3):
            word = "device"
        elif row(part, "bridge", 4):
            word = "bridge"
        else:
            return (path, "part")
        if word == "bridge" and above >= 6:
            return (path, "depth")
        name = part[1]
        if type(name) is not str or not 1 <= len(name) <= 8 or any(not "a" <= letter <= "z" for letter in name):
            return (path, "name")
        if name in [other for other, _ in before]:
            return (path, "twice")
        before.append((name, word))
        if word == "device":
            if not few(part[2], 4):
                return (path, "areas")
            for area in part[2]:
                sizes = {"far": [2 ** k for k in range(4, 41)], "near": [2 ** k for k in range(4, 32)]}
                if type(area) is not tuple or len(area) != 2 or area[0] not in list(sizes):
                    return (path, "area")
                if type(area[1]) is not int or area[1] not in sizes[area[0]]:
                    return (path, "area")
        else:
            if part[2] not in MARKS:
                return (path, "marks")
            if not few(part[3], 8):
                return (path, "parts")
            ahead = [(path + (slot,), below, above + 1) for slot, below in enumerate(part[3])] + ahead
    for word, most in (("device", 16), ("bridge", 8)):
        if [kind for _, kind in before].count(word) > most:
            return ((), word + "s")
    return None


class TreeError(unittest.TestCase):
    def check(self, value, error):
        self.assertEqual(tree_error(value), error)

    def test_trees(self):
        for value in (tree(), tree(marks=("strict",)), tree(None), tree(*[None] * 8), chained(6), chained(1),
                      tree(device("a"), device("abcdefgh"), device("z")), chained(6, (device("x", ("far", 16)),)),
                      tree(device("a", ("far", 16), ("far", 2 ** 40), ("near", 16), ("near", 2 ** 31))),
                      tree(*[bridge(name) for name in NAMES[:8]]), tree(bridge("az", None, device("zz"), None)),
                      tree(bridge("device", device("bridge"), device("tree"))), tree(*[device(n) for n in "abcdefgh"])):
            self.check(value, None)
        for marks in MARKS:
            self.check(tree(bridge("a", marks=marks)), None)

    def test_sixteen_devices_and_eight_bridges(self):
        devices = [device(name) for name in NAMES[:17]]
        eight = [bridge(name) for name in NAMES[20:28]]
        self.check(tree(bridge("a", *devices[:8]), *devices[8:15]), None)
        self.check(tree(bridge("a", *devices[:8]), bridge("b", *devices[8:16])), None)
        self.check(tree(bridge("a", *devices[:8]), *eight[:1], bridge("b", *devices[8:16]), devices[16]),
                   ((), "devices"))
        self.check(tree(bridge("a", *eight[:7])), None)
        self.check(tree(bridge("a", *eight)), ((), "bridges"))
        self.check(tree(bridge("a", *eight), *devices[:7]), ((), "bridges"))
        both = tree(bridge("a", *devices[:8]), bridge("b", *devices[8:16]), bridge("c", *eight), devices[16])
        self.check(both, ((), "devices"))
        self.check(tree(*both[2][:3], both[2][3][:2] + ((None,),)), ((3,), "area"))

    def test_depth(self):
        self.check(chained(7), ((0,) * 7, "depth"))
        self.check(chained(6, (None, device("x"), bridge("y"))), ((0, 0, 0, 0, 0, 0, 2), "depth"))
        self.check(chained(6, (bridge("aa", marks=None),)), ((0,) * 7, "depth"))
        self.check(chained(6, (bridge("Bad"),)), ((0,) * 7, "depth"))
        self.check(chained(6, (("bridge", "y", ()),)), ((0,) * 7, "part"))
        self.check(chained(6, (device("aa"),)), ((0,) * 7, "twice"))
        self.check(chained(9), ((0,) * 7, "depth"))

    def test_no_tree(self):
        for value in OTHERS + [("tree",), ("tree", ()), ("tree", (), (), ()), ["tree", (), ()], ("Tree", (), ()),
                               (None, (), ()), ((), "tree", ()), "tree", ("bridge", (), ()), (["tree"], (), ()),
                               ("bridge", "a", (), ()), ("device", "a", ()), HUGE]:
            self.check(value, ((), "tree"))

    def test_marks_of_a_tree(self):
        for marks in BAD_MARKS + [("hiding",), ("hiding", "strict")]:
            self.check(("tree", marks, ()), ((), "marks"))
            self.check(("tree", marks, None), ((), "marks"))

    def test_marks_of_a_bridge(self):
        for marks in BAD_MARKS:
            self.check(tree(None, ("bridge", "a", marks, ())), ((1,), "marks"))
            self.check(tree(bridge("b", ("bridge", "a", marks, 5))), ((0, 0), "marks"))

    def test_parts(self):
        for parts in OTHERS + [[None], (None,) * 9, tuple(device(name) for name in NAMES[:9]), "ab", {"a": None}]:
            if parts != () and not (type(parts) is tuple and len(parts) <= 8):
                self.check(("tree", (), parts), ((), "parts"))
                self.check(tree(None, ("bridge", "a", (), parts)), ((1,), "parts"))
        self.check(tree(*[bridge("a", *[None] * 8)]), None)

    def test_part(self):
        for part in OTHERS + [("device", "a"), ("device", "a", (), ()), ("bridge", "a", ()),
                              ("bridge", "a", (), (), ()),
                              ["device", "a", ()], ["bridge", "a", (), ()], ("Device", "a", ()), ("tree", (), ()),
                              ("bridge", "a", ()), ("device", "a", (), None), (None, "a", ()), "device",
                              ("a", "device", ())]:
            if part is not None:
                self.check(tree(part), ((0,), "part"))
                self.check(tree(None, bridge("x", device("y"), part)), ((1, 1), "part"))

    def test_names(self):
        for name in BAD_NAMES:
            self.check(tree(None, ("device", name, ())), ((1,), "name"))
            self.check(tree(None, ("device", name, None)), ((1,), "name"))
            self.check(tree(("bridge", name, None, None)), ((0,), "name"))

    def test_names_that_occur_twice(self):
        self.check(tree(device("a"), device("b"), device("a")), ((2,), "twice"))
        self.check(tree(bridge("a", device("a"))), ((0, 0), "twice"))
        self.check(tree(device("a"), bridge("b", bridge("a"))), ((1, 0), "twice"))
        self.check(tree(bridge("b", device("a")), ("device", "a", None)), ((1,), "twice"))
        self.check(tree(bridge("b", device("a")), ("bridge", "b", None, None)), ((1,), "twice"))
        self.check(tree(device("a"), device("aa"), device("aaa")), None)

    def test_areas(self):
        five = (("far", 16),) * 5
        for areas in [value for value in OTHERS if type(value) is not tuple] + [[("far", 16)], five, five + (None,),
                                                                                (None,) * 5]:
            self.check(tree(device("b"), ("device", "a", areas)), ((1,), "areas"))
        for area in BAD_AREAS:
            self.check(tree(("device", "a", (area,))), ((0,), "area"))
            self.check(tree(bridge("b", None, device("a", ("near", 16), ("far", 32), ("far", 16), area))),
                       ((0, 1), "area"))

    def test_areas_of_all_sizes(self):
        for k in range(0, 50):
            self.check(tree(device("a", ("far", 2 ** k))), None if 4 <= k <= 40 else ((0,), "area"))
            self.check(tree(device("a", ("near", 2 ** k))), None if 4 <= k <= 31 else ((0,), "area"))

    def test_the_first_in_preorder_is_told(self):
        bad = [5, ("device", "", ()), ("device", "a", None), ("device", "b", (None,)), ("bridge", "c", None, ()),
               ("bridge", "d", (), None)]
        words = ["part", "name", "areas", "area", "marks", "parts"]
        for one, word in zip(bad, words):
            for other in bad:
                if one != other:
                    self.check(tree(None, one, other), ((1,), word))
                    self.check(tree(bridge("x", device("y"), bridge("z", one)), other), ((0, 1, 0), word))
                    self.check(tree(bridge("x", None, one, bridge("z", other))), ((0, 1), word))
        self.check(tree(bridge("x", 5, marks=None)), ((0,), "marks"))
        self.check(("tree", None, None), ((), "marks"))
        self.check(("tree", (), (5,) * 9), ((), "parts"))
        # What is wrong with any part is told before the numbers of devices and bridges.
        self.check(tree(*[bridge(name, device("x" + name)) for name in NAMES[:7]], bridge("zz", bridge("zy"), 5)),
                   ((7, 1), "part"))

    def test_values_made_of_trees_with_some_parts_replaced(self):
        source = random.Random(1)
        pool = OTHERS + BAD_MARKS + BAD_NAMES + BAD_AREAS + MARKS + ["a", "b", "ax", "by"] * 40 + [("far", 16)]

        def spoiled(value):
            if type(value) is not tuple or source.random() < 0.1:
                return source.choice(pool)
            at = source.randrange(len(value) + 1)
            if at == len(value):
                return value + (source.choice(pool),)
            return value[:at] + (spoiled(value[at]),) + value[at + 1:]

        found = {}
        small = tree(device("a", ("far", 16)), bridge("b"))
        for seed in range(4000):
            value = [some_tree(seed % 50, bridges=9, devices=17, slots=6), small, chained(6 + seed % 2)][seed % 3]
            for _ in range(source.randrange(0, 3)):
                value = spoiled(value)
            error = plain_error(value)
            self.check(value, error)
            found[error and error[1]] = True
        self.assertEqual(len(found), 12, found)

    def test_any_value(self):
        deep = None
        for _ in range(28):
            deep = ("bridge", "a", (), (deep,))
        for value in OTHERS + [deep, tree(deep), ("tree", (), (deep,) * 8), [tree()], {"tree": tree()}, tree() * 1000]:
            self.check(value, plain_error(value))


T = tree(device("disk", ("far", 2 ** 20)), bridge("east", device("net", ("near", 4096), ("near", 16)), None,
                                                  bridge("deep", None, device("end"), marks=("hiding",))), None)
PATHS = {(): T, (0,): T[2][0], (1,): T[2][1], (1, 0): T[2][1][3][0], (1, 1): None, (1, 2): T[2][1][3][2],
         (1, 2, 0): None, (1, 2, 1): T[2][1][3][2][3][1], (2,): None}
NO_PATHS = [(3,), (0, 0), (1, 1, 0), (1, 3), (2, 0), (1, 2, 1, 0), (1, 2, 2), (-1,), (1, -1), (8,), (HUGE,), (True,),
            (False,), (1, False), (1, True), ("0",), ("a",), (None,), [], [0], [1, 0], 0, 1, None, True, "", "0",
            "disk",
            ((0,),), ((),), {}, {0: 0}, (1, (2,)), (0,) * 4000, (1.0,), ([],), (1, None), ("disk",), (0, None)]
NO_PATHS += [value for value in OTHERS if value not in list(PATHS)]


class Parts(unittest.TestCase):
    def no_part(self, call, path):
        with self.assertRaises(NoPart) as caught:
            call()
        self.assertIs(caught.exception.value, path)
        self.assertNotIsInstance(caught.exception, BusError)

    def test_part_at(self):
        for path, part in PATHS.items():
            self.assertIs(part_at(T, path), part)
        for path in NO_PATHS:
            self.no_part(lambda: part_at(T, path), path)
        self.no_part(lambda: part_at(tree(), (0,)), (0,))
        self.assertEqual(part_at(tree(), ()), tree())

    def test_path_of(self):
        for path, part in PATHS.items():
            if path and part:
                self.assertEqual(path_of(T, part[1]), path)
        for name in OTHERS + ["", "dis", "diskk", "Disk", "tree", "device", "bridge", "hiding", "far", "zzz",
                              ("disk",), HUGE]:
            with self.assertRaises(NoName) as caught:
                path_of(T, name)
            self.assertIs(caught.exception.value, name)
            self.assertNotIsInstance(caught.exception, BusError)
        with self.assertRaises(NoName):
            path_of(tree(None), None)

    def test_names_of(self):
        self.assertEqual(names_of(T), ("disk", "east", "net", "deep", "end"))
        self.assertEqual(names_of(tree()), ())
        self.assertEqual(names_of(tree(None, device("b"), device("a"))), ("b", "a"))
        for seed in range(30):
            value = some_tree(seed)
            self.assertEqual(names_of(value), tuple(part[1] for _, part in walked(value)))
            for path, part in walked(value):
                self.assertEqual([path_of(value, part[1]), part_at(value, path)], [path, part])


class WithPart(unittest.TestCase):
    def test_each_slot(self):
        new = device("new", ("far", 16))
        for seed in range(30):
            value = some_tree(seed)
            before = copy.deepcopy(value)
            slots = [path + (slot,) for path, part in [((), value)] + list(walked(value)) if part[0] != "device"
                     for slot in range(len(part[-1]))]
            for path in slots:
                for part in (None, new, bridge("fresh", new, None)):
                    if part is not None and part[0] == "bridge" and len(path) == 7:
                        continue
                    changed = with_part(value, path, part)
                    self.assertEqual(part_at(changed, path), part)
                    expected = [row for row in walked(value) if row[0][:len(path)] != path]
                    found = [row for row in walked(changed) if row[0][:len(path)] != path]
                    # The bridges above are other ones; what they are called, and all other parts, are the same.
                    self.assertEqual([(at, part[1]) for at, part in found], [(at, part[1]) for at, part in expected])
                    for (at, one), (_, other) in zip(found, expected):
                        self.assertEqual(one[:-1], other[:-1])
                        if at != path[:len(at)]:
                            self.assertEqual(one, other)
                    self.assertEqual(changed[:2], value[:2])
            self.assertEqual(value, before)

    def test_what_is_returned(self):
        self.assertEqual(with_part(T, (2,), device("a")), tree(*T[2][:2], device("a")))
        self.assertEqual(with_part(T, (0,), None), tree(None, *T[2][1:]))
        self.assertEqual(with_part(T, (1, 2, 0), device("a")),
                         tree(T[2][0], bridge("east", *T[2][1][3][:2],
                                              bridge("deep", device("a"), device("end"), marks=("hiding",))), None))
        self.assertEqual(with_part(T, (1, 1), None), T)
        self.assertEqual(with_part(tree(device("a"), marks=("strict",)), (0,), device("a")),
                         tree(device("a"), marks=("strict",)))

    def test_no_part(self):
        for part in (None, device("a"), 5, [], "device"):
            for path in NO_PATHS + [()]:
                with self.assertRaises(NoPart) as caught:
                    with_part(T, path, part)
                self.assertIs(caught.exception.value, path)

    def test_bad_tree(self):
        for path, part, error in (
            ((2,), device("net"), ((2,), "twice")), ((0,), device("net"), ((1, 0), "twice")),
            ((1, 1), 5, ((1, 1), "part")), ((2,), T, ((2,), "part")), ((2,), device(""), ((2,), "name")),
            ((1, 2, 0), ("device", "a", None), ((1, 2, 0), "areas")), ((2,), device("a", ("far", 8)), ((2,), "area")),
            ((2,), bridge("a", marks=("strict", "hiding")), ((2,), "marks")),
            ((2,), ("bridge", "a", (), None), ((2,), "parts")),
            ((1, 1), bridge("a", device("disk")), ((1, 1, 0), "twice")), ((2,), ["device", "a", ()], ((2,), "part")),
            ((1, 1), chained(5)[2][0], None), ((1, 1), chained(6)[2][0], ((1, 1, 0, 0, 0, 0, 0), "depth")),
            ((2,), bridge("a", *[device("x" + name) for name in NAMES[:8]]), None),
            ((2,), bridge("a", *[bridge(name) for name in NAMES[:6]]), ((), "bridges")),
            ((2,), bridge("a", *[device(name) for name in NAMES[:8]],), None),
            ((2,), bridge("a", bridge("b", *[device(n) for n in NAMES[:8]]),
                          bridge("c", *[device(n) for n in NAMES[8:16]])),
             ((), "devices")),
        ):
            if error is None:
                self.assertIsNone(tree_error(with_part(T, path, part)))
                continue
            with self.assertRaises(BadTree) as caught:
                with_part(T, path, part)
            self.assertEqual(caught.exception.error, error)
        for part in OTHERS:
            if part is not None:
                with self.assertRaises(BadTree) as caught:
                    with_part(T, (1, 1), part)
                self.assertEqual(caught.exception.error, ((1, 1), "part"))

    def test_a_part_in_the_place_of_one_with_its_name(self):
        self.assertEqual(names_of(with_part(T, (1,), device("net"))), ("disk", "net"))
        self.assertEqual(names_of(with_part(T, (1,), bridge("net", device("east")))), ("disk", "net", "east"))


class Only(unittest.TestCase):
    def test_devices_that_stay(self):
        empty = tree(None, bridge("east", None, None, bridge("deep", None, None, marks=("hiding",))), None)
        self.assertEqual(only(T, ("disk", "net", "end")), T)
        self.assertEqual(only(T, ()), empty)
        self.assertEqual(only(T, ("net",)), with_part(empty, (1, 0), T[2][1][3][0]))
        self.assertEqual(only(T, ("end", "end", "disk")), with_part(with_part(empty, (1, 2, 1), device("end")), (0,),
                                                                    T[2][0]))

    def test_names_of_bridges_and_of_nothing(self):
        self.assertEqual(only(T, ("east", "deep")), only(T, ()))
        self.assertEqual(only(T, tuple(OTHERS) + ("zzz", ["net"], ("net",), HUGE, "ne", "nett")), only(T, ()))
        self.assertEqual(only(T, tuple(OTHERS) + ("net",)), only(T, ("net",)))
        self.assertEqual(only(tree(), ("a",)), tree())
        self.assertEqual(only(tree(device("a"), marks=("strict",)), ()), tree(None, marks=("strict",)))

    def test_all_subsets(self):
        for seed in range(12):
            value = some_tree(seed)
            before = copy.deepcopy(value)
            devices = [part[1] for _, part in walked(value) if part[0] == "device"]
            for many in range(len(devices) + 1):
                for names in itertools.combinations(devices, many):
                    expected = value
                    for name in devices:
                        if name not in names:
                            expected = with_part(expected, path_of(value, name), None)
                    self.assertEqual(only(value, names), expected)
            self.assertEqual(value, before)


if __name__ == "__main__":
    unittest.main()
