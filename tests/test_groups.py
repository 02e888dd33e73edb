"""Points 2, 3, 20 and 21: which devices may hit one another, and groups."""

import copy
import itertools
import random
import unittest

from buswindows.errors import NoName
from buswindows.groups import chain, chain_holds, groups, hit_holds, hit_shown, may_hit
from buswindows.requests import are_settings, follow
from plain import bridge, device, some_settings, some_tree, tree, walked, way
from samples import HUGE, OTHERS

FAR = 2 ** 32
NEAR16 = ("near", 16)

# Two bridges beside one another, the second one strict and hiding, and devices without areas.
W = tree(
    bridge("loose", device("a", NEAR16), device("b", ("far", 2 ** 40)), bridge("deep", device("c"), marks=("strict",))),
    None,
    bridge("tight", device("d", NEAR16), device("e", ("near", 2 ** 31)), device("f"), marks=("hiding", "strict")),
    device("g", NEAR16, ("far", 16)),
)
NAMES = tuple("abcdefg")

# All that a bridge may hide, six bridges deep, on segments that are strict throughout.
DEEP = tree(bridge("one", bridge("two", bridge("three", bridge("four", bridge("five", bridge(
    "six", device("low", NEAR16), device("lower", NEAR16), marks=("strict",)), marks=("strict",)), device("mid", NEAR16),
    marks=("hiding", "strict")), marks=("strict",)), marks=("strict",)), device("high", NEAR16), marks=("strict",)),
    marks=("strict",))


def devices(whole):
    return {part[1]: path for path, part in walked(whole) if part[0] == "device"}


def cases(count=60, **bounds):
    return [some_tree(seed, **{"bridges": 4, "devices": 6, "slots": 3, **bounds}) for seed in range(count)]


def hits_somehow(whole, one, other):
    """Whether any blocks at one address let a request hit: each area and each window claims it or not."""
    for kind, address in (("far", 2 ** 40), ("near", 0)):
        choices = []
        for _, part in walked(whole):
            if part[0] == "device":
                areas = [[None, (address, size)] if other_kind == kind else [None] for other_kind, size in part[2]]
                choices.append([(part[1], blocks) for blocks in itertools.product(*areas)])
            else:
                both = ((part[1], None, None),
                        (part[1], (address, 16), None) if kind == "far" else (part[1], None, (address, 16)))
                choices.append(both)
        for settings in itertools.product(*choices):
            if way(whole, settings, one, address)[-1][:2] == ("hit", other):
                return True
    return False


def shared_segment(whole, one, other):
    """The marks of the lowest segment on or below which both devices stand."""
    paths = devices(whole)
    marks = {(): whole[1], **{path: part[2] for path, part in walked(whole) if part[0] == "bridge"}}
    both = [path for path in marks if all(paths[name][:len(path)] == path for name in (one, other))]
    return marks[max(both, key=len)]


def links(whole):
    """All rows that a chain may have."""
    paths = devices(whole)
    rows = []
    for one, other in itertools.permutations(paths, 2):
        if may_hit(whole, one, other) or may_hit(whole, other, one):
            rows.append(("hit", one, other))
        for path, part in walked(whole):
            if part[0] == "bridge" and "hiding" in part[2]:
                if all(paths[name][:len(path)] == path for name in (one, other)):
                    rows.append(("hiding", one, other, part[1]))
    return rows


def distances(whole, one):
    """The fewest rows from a device to each one of its group."""
    rows = links(whole)
    found = {one: 0}
    for _ in range(20):
        for row in rows:
            if row[1] in found:
                found[row[2]] = min(found.get(row[2], 99), found[row[1]] + 1)
    return found


class MayHit(unittest.TestCase):
    def test_small_trees_against_all_settings(self):
        seen = set()
        for whole in cases(80, bridges=3, devices=3):
            for one, other in itertools.product(devices(whole), repeat=2):
                told = may_hit(whole, one, other)
                self.assertIs(told, hits_somehow(whole, one, other), (whole, one, other))
                seen.add((told, one == other))
        self.assertEqual(seen, {(True, False), (False, False), (False, True)})

    def test_the_lowest_shared_segment_decides(self):
        for whole in [W, DEEP] + cases(60):
            areas = {part[1]: part[2] for _, part in walked(whole)}
            for one, other in itertools.permutations(devices(whole), 2):
                loose = "strict" not in shared_segment(whole, one, other)
                self.assertIs(may_hit(whole, one, other), bool(areas[other]) and loose)

    def test_some(self):
        for one, other in (("a", "b"), ("b", "a"), ("a", "g"), ("c", "a"), ("d", "g"), ("g", "d"), ("f", "g")):
            self.assertIs(may_hit(W, one, other), True)
        for one, other in (("a", "c"), ("d", "e"), ("e", "d"), ("f", "e"), ("g", "f"), ("a", "a"), ("c", "c")):
            self.assertIs(may_hit(W, one, other), False)
        for one, other in itertools.product(devices(DEEP), repeat=2):
            self.assertIs(may_hit(DEEP, one, other), False)

    def test_random_settings_never_hit_what_may_not_be_hit(self):
        for seed, whole in enumerate(cases(60, sizes=(16, 32, 64))):
            settings = some_settings(whole, seed, places=3)
            for one, address in itertools.product(devices(whole), (0, 16, 40, FAR, FAR + 40)):
                last = follow(whole, settings, one, address)[-1]
                for other in devices(whole):
                    hit = last[:2] == ("hit", other)
                    self.assertIs(hit_holds(whole, one, other, (settings, address)), hit)
                    if hit:
                        self.assertTrue(may_hit(whole, one, other))


class HitShown(unittest.TestCase):
    def test_what_is_shown_holds_and_is_shown_exactly_if_it_may_hit(self):
        for whole in [W, DEEP] + cases(80):
            for one, other in itertools.product(devices(whole), repeat=2):
                shown = hit_shown(whole, one, other)
                self.assertEqual(shown is not None, may_hit(whole, one, other))
                self.assertEqual(shown, hit_shown(whole, one, other))
                self.assertIs(hit_holds(whole, one, other, shown), shown is not None)
                if shown is not None:
                    settings, address = shown
                    self.assertIs(type(shown), tuple)
                    self.assertTrue(are_settings(whole, settings))
                    self.assertEqual(way(whole, settings, one, address)[-1][:2], ("hit", other))

    def test_the_greatest_areas(self):
        for kind, size in (("far", 2 ** 40), ("near", 2 ** 31), ("far", 16), ("near", 16)):
            whole = tree(bridge("b", device("one")), bridge("c", bridge("d", device("two", (kind, size)))))
            self.assertIs(hit_holds(whole, "one", "two", hit_shown(whole, "one", "two")), True)
            self.assertIsNone(hit_shown(whole, "two", "one"))

    def test_the_last_address(self):
        whole = tree(device("one"), device("two", ("far", 16)))
        settings = (("one", ()), ("two", ((2 ** 48 - 16, 16),)))
        self.assertIs(hit_holds(whole, "one", "two", (settings, 2 ** 48 - 1)), True)
        self.assertIs(hit_holds(whole, "one", "two", (settings, 2 ** 48)), False)

    def test_other_values_do_not_hold(self):
        settings, address = hit_shown(W, "a", "g")
        self.assertIs(hit_holds(W, "a", "g", (settings, address)), True)
        for value in OTHERS + [HUGE, [settings, address], (settings,), (settings, address, address), (address, settings),
                               {"settings": settings}]:
            self.assertIs(hit_holds(W, "a", "g", value), False)
            self.assertIs(hit_holds(W, "a", "a", value), False)
            self.assertIs(hit_holds(W, "a", "g", (value, address)), False)
            self.assertIs(hit_holds(W, "a", "g", (settings, value)), value is not False and value == 0 == address)
        for wrong in (True, False, 2 ** 48, -1, 10 ** 39, HUGE, None, "0", (0,)):
            self.assertIs(hit_holds(W, "a", "g", (settings, wrong)), False)
        self.assertIs(hit_holds(W, "a", "g", (list(settings), address)), False)
        self.assertIs(hit_holds(W, "a", "g", (settings[:-1], address)), False)
        self.assertIs(hit_holds(W, "b", "a", (settings, address)), False)
        nothing = tuple((row[0], (None,) * len(row[1])) if len(row) == 2 else (row[0], None, None) for row in settings)
        self.assertIs(hit_holds(W, "a", "g", (nothing, address)), False)

    def test_any_area_of_the_other_device_is_a_hit(self):
        whole = tree(device("one"), device("two", NEAR16, ("far", 32)))
        for blocks, address in ((((0, 16), None), 15), ((None, (FAR, 32)), FAR + 31), (((16, 16), (FAR, 32)), 16)):
            self.assertIs(hit_holds(whole, "one", "two", ((("one", ()), ("two", blocks)), address)), True)
        self.assertIs(hit_holds(whole, "one", "two", ((("one", ()), ("two", ((0, 16), None))), 16)), False)
        self.assertIs(hit_holds(whole, "one", "two", ((("one", ()), ("two", ((False, 16), None))), 0)), False)


class Groups(unittest.TestCase):
    def test_against_the_closure(self):
        for whole in [W, DEEP, tree()] + cases(80) + cases(20, bridges=8, devices=16, slots=8):
            expected = {tuple(sorted(distances(whole, name))) for name in devices(whole)}
            self.assertEqual(groups(whole), tuple(sorted(expected)))

    def test_some(self):
        self.assertEqual(groups(W), (NAMES,))
        self.assertEqual(groups(DEEP), (("high",), ("low", "lower", "mid")))
        self.assertEqual(groups(tree()), ())
        self.assertEqual(groups(tree(bridge("b", None), None)), ())
        self.assertEqual(groups(tree(device("z"), device("y"), device("x"))), (("x",), ("y",), ("z",)))
        self.assertEqual(groups(tree(device("z"), device("y", NEAR16), device("x"))), (("x", "y", "z"),))
        self.assertEqual(groups(tree(bridge("b", device("y"), device("x"), marks=("hiding",)), device("a"))),
                         (("a",), ("x", "y")))

    def test_the_most_devices(self):
        letters = "abcdefghijklmnop"
        whole = tree(bridge("left", *[device(letter) for letter in letters[8:]], marks=("hiding",)),
                     *[device(letter) for letter in letters[1:8]])
        self.assertEqual(groups(whole), tuple((letter,) for letter in letters[1:8]) + (tuple(letters[8:]),))


class Chains(unittest.TestCase):
    def test_chains_hold_and_have_the_fewest_rows(self):
        for whole in [W, DEEP] + cases(80):
            for one in devices(whole):
                fewest = distances(whole, one)
                for other in devices(whole):
                    found = chain(whole, one, other)
                    self.assertEqual(found, chain(whole, one, other))
                    self.assertEqual(found is not None, other in fewest)
                    self.assertIs(chain_holds(whole, one, other, found), found is not None)
                    if found is not None:
                        self.assertEqual(len(found), fewest[other])

    def test_a_device_and_itself(self):
        for name in NAMES:
            self.assertEqual(chain(W, name, name), ())
            self.assertIs(chain_holds(W, name, name, ()), True)
        self.assertIs(chain_holds(W, "a", "b", ()), False)
        self.assertIs(chain_holds(W, "a", "a", (("hit", "a", "b"), ("hit", "b", "a"))), True)

    def test_random_rows(self):
        source = random.Random(5)
        for whole in [W, DEEP] + cases(40):
            names = list(devices(whole))
            rows = links(whole)
            if not rows:
                continue
            bridges = [part[1] for _, part in walked(whole) if part[0] == "bridge"] + ["no"]
            others = [("hit", one, other) for one in names for other in names]
            others += [("hiding", one, other, name) for one in names for other in names for name in bridges]
            for _ in range(60):
                value = [source.choice(rows)]
                while source.random() < 0.6:
                    last = value[-1][2]
                    value.append(source.choice([row for row in rows + others if row[1] == last]))
                ends = (value[0][1], value[-1][2])
                for one, other in (ends, ends[::-1], (source.choice(names), source.choice(names))):
                    good = (one, other) == ends and all(row in rows for row in value)
                    self.assertIs(chain_holds(whole, one, other, tuple(value)), good)

    def test_other_values_do_not_hold(self):
        good = (("hiding", "d", "f", "tight"), ("hit", "f", "g"))
        self.assertIs(chain_holds(W, "d", "g", good), True)
        self.assertIs(chain_holds(W, "d", "g", list(good)), False)
        for value in OTHERS + [HUGE]:
            self.assertIs(chain_holds(W, "d", "g", value), False)
            self.assertIs(chain_holds(W, "d", "g", (value,)), False)
            self.assertIs(chain_holds(W, "d", "g", good + (value,)), False)
            for at in range(4):
                row = good[0][:at] + (value,) + good[0][at + 1:]
                self.assertIs(chain_holds(W, "d", "g", (row, good[1])), False)
                self.assertIs(chain_holds(W, "d", "g", (good[0], good[1][:at] + (value,) + good[1][at + 1:])), False)
        for wrong in (
            (good[0], list(good[1])), (good[1],), (good[0],), good[::-1], good + good[1:],
            (("hit", "d", "f"), good[1]), (("hiding", "d", "f", "loose"), good[1]), (("hiding", "d", "f", "d"), good[1]),
            (("hiding", "d", "f"), good[1]), (good[0], ("hit", "f", "g", "tight")), (good[0], ("hit", "f", "f"), good[1]),
            (good[0], ("hiding", "f", "g", "tight")), (good[0], ("hit", "f", "tight")), (good[0], ("HIT", "f", "g")),
            (good[0], ("hit", "e", "g")), (("hiding", "d", "d", "tight"), ("hit", "d", "g")),
        ):
            self.assertIs(chain_holds(W, "d", "g", wrong), False, wrong)

    def test_a_row_holds_in_both_directions(self):
        # Only one of the two may hit the other one, and is joined to it all the same.
        whole = tree(device("one"), device("two", NEAR16))
        self.assertEqual(chain(whole, "two", "one"), (("hit", "two", "one"),))
        self.assertIs(chain_holds(whole, "two", "one", (("hit", "two", "one"),)), True)
        self.assertIs(chain_holds(whole, "one", "two", (("hit", "one", "two"),)), True)
        self.assertIs(chain_holds(whole, "one", "two", (("hit", "two", "one"),)), False)

    def test_each_bridge_above_both_may_be_named(self):
        whole = tree(bridge("out", bridge("mid", bridge("in", device("a"), device("b"), marks=("hiding",)),
                                          marks=("strict",)), marks=("hiding", "strict")))
        for name, good in (("out", True), ("in", True), ("mid", False), ("a", False)):
            self.assertIs(chain_holds(whole, "a", "b", (("hiding", "a", "b", name),)), good)


class Errors(unittest.TestCase):
    def test_names_of_no_device(self):
        for value in OTHERS + [HUGE, "loose", "tight", "A", "aa"]:
            for function, rest in ((may_hit, ()), (hit_shown, ()), (hit_holds, (None,)), (chain, ()),
                                   (chain_holds, ((),))):
                for names in ((value, "a"), ("a", value), (value, "zz"), (value, value)):
                    with self.assertRaises(NoName) as caught:
                        function(W, *names, *rest)
                    self.assertIs(caught.exception.value, value)
                with self.assertRaises(NoName) as caught:
                    function(W, "zz", value, *rest)
                self.assertEqual(caught.exception.value, "zz")

    def test_arguments_stay_as_they_are(self):
        whole = copy.deepcopy(W)
        value = [("hit", "a", "b"), {"a": [1]}]
        for call in (lambda: may_hit(whole, "a", "g"), lambda: hit_shown(whole, "a", "g"), lambda: groups(whole),
                     lambda: hit_holds(whole, "a", "g", value), lambda: chain(whole, "a", "f"),
                     lambda: chain_holds(whole, "a", "f", value)):
            self.assertEqual(call(), call())
        self.assertEqual((whole, value), (W, [("hit", "a", "b"), {"a": [1]}]))


if __name__ == "__main__":
    unittest.main()
