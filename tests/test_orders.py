"""Points 2, 3 and 27: orders in a tree."""

import itertools
import unittest

from buswindows.errors import NoName
from buswindows.orders import forbidden
from plain import bridge, device, tree, walked
from samples import HUGE, OTHERS

PAIRS = tuple(itertools.permutations(("answer", "read", "write"), 2))
KIND = {"data": "write", "flag": "write", "ask": "read", "no": "answer", "yes": "answer", "look": "read"}

TREES = [
    tree(device("p"), device("c"), device("d"), device("f")),
    tree(bridge("x", device("a"), bridge("y", device("c"), None, device("d"))), device("e")),
    tree(bridge("x", device("a"), bridge("z", device("b"))), bridge("y", device("c"))),
]


def way(one, other):
    """The links from one place to another one: pairs of a path and a direction."""
    shared = 0
    while one[:shared + 1] == other[:shared + 1] and shared < min(len(one), len(other)):
        shared += 1
    return ([(one[:many], "up") for many in range(len(one), shared, -1)]
            + [(other[:many], "down") for many in range(shared + 1, len(other) + 1)])


def put(queues, link, message, places):
    """The queues with a message at the end of one, None if there is no free place."""
    queue = dict(queues).get(link, ())
    if sum(KIND[other] == KIND[message] for other in queue) >= places:
        return None
    return tuple(sorted({**dict(queues), link: queue + (message,)}.items()))


def without(queues, link, at):
    queue = dict(queues)[link]
    return tuple(sorted({**dict(queues), link: queue[:at] + queue[at + 1:]}.items()))


class Run:
    """All runs of a producer and a consumer, step by step: what may come next of a state.

    A state has the queues, what the producer has written, what has come to its place,
    and what the consumer does.
    """

    def __init__(self, rules, places, producer, consumer, data, flag):
        self.rules, self.places = rules, places
        self.ways = {"data": way(producer, data), "flag": way(producer, flag), "ask": way(consumer, flag),
                     "no": way(flag, consumer), "yes": way(flag, consumer), "look": way(consumer, data)}

    def began(self, state, message):
        """The states in which a message has begun its way, or is there at once."""
        queues, written, there, doing = state
        if not self.ways[message]:
            return self.arrived(state, message)
        queues = put(queues, self.ways[message][0], message, self.places)
        return [] if queues is None else [(queues, written, there, doing)]

    def arrived(self, state, message):
        """The states in which a message has come to its place."""
        queues, written, there, doing = state
        if message in ("data", "flag"):
            return [(queues, written, there | {message}, doing)]
        if message == "look":
            return [(queues, written, there, "found" if "data" in there else "missed")]
        if message == "ask":
            answer = "yes" if "flag" in there else "no"
            return self.began(state, answer) if self.ways[answer] else [
                (queues, written, there, "seen" if answer == "yes" else "idle")]
        return [(queues, written, there, "seen" if message == "yes" else "idle")]

    def after(self, state):
        queues, written, there, doing = state
        found = []
        if written < 2:
            found += self.began((queues, written + 1, there, doing), ("data", "flag")[written])
        if doing == "idle":
            found += self.began((queues, written, there, "waiting"), "ask")
        if doing == "seen":
            found += self.began((queues, written, there, "looking"), "look")
        for link, queue in queues:
            for at, message in enumerate(queue):
                if all((KIND[message], KIND[ahead]) in self.rules for ahead in queue[:at]):
                    rest = (without(queues, link, at), written, there, doing)
                    links = self.ways[message]
                    if link == links[-1]:
                        found += self.arrived(rest, message)
                    else:
                        moved = put(rest[0], links[links.index(link) + 1], message, self.places)
                        found += [] if moved is None else [(moved, written, there, doing)]
        return found

    def misses(self):
        """Whether in some run the consumer sees the flag set and then finds the data not there."""
        start = ((), 0, frozenset(), "idle")
        seen, todo = {start}, [start]
        while todo:
            for state in self.after(todo.pop()):
                if state[3] == "missed":
                    return True
                if state not in seen:
                    seen.add(state)
                    todo.append(state)
        return False


def places_of(whole):
    return {None: (), **{part[1]: path for path, part in walked(whole) if part[0] == "device"}}


class Forbidden(unittest.TestCase):
    def test_against_all_runs(self):
        told = set()
        for whole in TREES:
            paths = places_of(whole)
            for names in list(itertools.product(paths, repeat=4))[::3]:
                where = [paths[name] for name in names]
                expected = tuple(pair for pair in PAIRS if Run({pair}, 1, *where).misses())
                self.assertEqual(forbidden(whole, *names), expected, names)
                self.assertFalse(Run(set(), 1, *where).misses())
                told.add(expected)
        answer, read = ("answer", "write"), ("read", "write")
        self.assertEqual(told, {(), (answer,), (read,), (answer, read)})

    def test_more_places_change_nothing(self):
        whole = TREES[1]
        paths = places_of(whole)
        for names in list(itertools.product(paths, repeat=4))[::11]:
            where = [paths[name] for name in names]
            self.assertEqual(forbidden(whole, *names), tuple(pair for pair in PAIRS if Run({pair}, 2, *where).misses()))

    def test_deep_trees(self):
        # Below one bridge of the top segment the data waits for the top in the link of that bridge.
        whole = tree(bridge("x", bridge("y", bridge("z", device("p")), device("c")), device("f")), device("e"))
        self.assertEqual(forbidden(whole, "p", "c", None, "f"), (("read", "write"),))
        self.assertEqual(forbidden(whole, "p", "c", None, "e"), ())
        self.assertEqual(forbidden(whole, "p", "e", None, "f"), (("answer", "write"),))
        self.assertEqual(forbidden(whole, "p", "e", None, "e"), ())
        self.assertEqual(forbidden(whole, "p", "e", None, "p"), (("answer", "write"),))
        self.assertEqual(forbidden(whole, None, "p", "f", "c"), (("read", "write"),))
        self.assertEqual(forbidden(whole, None, "p", "f", None), (("answer", "write"), ("read", "write")))
        self.assertEqual(forbidden(whole, None, "p", "c", None), (("answer", "write"), ("read", "write")))

    def test_equal_places(self):
        whole = TREES[0]
        for name in (None, "p", "d"):
            self.assertEqual(forbidden(whole, name, name, name, name), ())
            self.assertEqual(forbidden(whole, name, "c", name, "f"), ())
            self.assertEqual(forbidden(whole, name, "c", "f", "f"), ())
            self.assertEqual(forbidden(whole, name, name, "c", name), (("read", "write"),))
            self.assertEqual(forbidden(whole, name, "c", "c", name), (("answer", "write"),))

    def test_marks_and_areas_change_nothing(self):
        plain = tree(bridge("x", device("p"), device("f")), device("c"), device("d"))
        whole = tree(bridge("x", device("p", ("near", 16)), device("f"), marks=("hiding", "strict")), device("c"),
                     device("d", ("far", 16)), marks=("strict",))
        for names in itertools.product(places_of(plain), repeat=4):
            self.assertEqual(forbidden(whole, *names), forbidden(plain, *names))
            self.assertEqual(forbidden(whole, *names), forbidden(whole, *names))

    def test_an_empty_tree(self):
        self.assertEqual(forbidden(tree(), None, None, None, None), ())


class Errors(unittest.TestCase):
    def test_names_of_no_device(self):
        for value in OTHERS + [HUGE, "x", "y", "zz", "A"]:
            if value is None:
                continue
            for at in range(4):
                names = ["a", "c", "d", None]
                names[at] = value
                with self.assertRaises(NoName) as caught:
                    forbidden(TREES[1], *names)
                self.assertIs(caught.exception.value, value)
                names[at + 1:] = [[value]] * (3 - at)
                with self.assertRaises(NoName) as caught:
                    forbidden(TREES[1], *names)
                self.assertIs(caught.exception.value, value)


if __name__ == "__main__":
    unittest.main()
