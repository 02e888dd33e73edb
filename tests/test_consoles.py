"""Points 2, 3 and 35: consoles."""

import random
import unittest

from bench import ROOMS, SMALL, TIGHT, T, seen
from buswindows.consoles import Console
from buswindows.hot import HotMachine, LoggedHotMachine, LoggedMachine
from buswindows.machines import Machine
from buswindows.texts import parse_tree, room_text, tree_text
from mirror import Calls, Mirror
from plain import bridge, device, tree, walked
from samples import HUGE, OTHERS

FAR = 2 ** 32
CLASSES = (Machine, HotMachine, LoggedMachine, LoggedHotMachine)
UNKNOWN = "unknown command"
# Bridges one below another, with as many brackets open at once as there may be.
NINE = "a(b(c(d(e(f(g(h(i(" + ")" * 9


def path_text(path):
    return ".".join(str(slot) for slot in path) or "."


def part_text(part):
    """The text of a device or bridge."""
    return tree_text(tree(part))[1:-1]


class Commands(unittest.TestCase):
    def answers(self, console, *rows):
        for line, answer in rows:
            self.assertEqual(console.execute(line), answer, line)
            self.assertEqual(console.history[-1], (line, answer))

    def test_edits(self):
        for owner in CLASSES:
            machine = owner(T, ROOMS)
            console = Console(machine)
            self.answers(console, ("plug 1.1 new[n4,f4]", "ok 1"), ("unplug 0", "ok 2"), ("reserve 8192^13", "ok 3"),
                         ("release 8192^13", "ok 4"), ("undo", "ok 3"), ("undo", "ok 2"))
            self.assertEqual(machine.edits(), (("plug", (1, 1), ("device", "new", (("near", 16), ("far", 16)))),
                                               ("unplug", (0,))))
            hot = owner in (HotMachine, LoggedHotMachine)
            self.answers(console, ("settle", "ok 3" if hot else UNKNOWN), ("way . near 4", "ok 4" if hot else UNKNOWN),
                         ("way 1 near 12", "error NoSpace" if hot else UNKNOWN))
            if hot:
                self.assertEqual(machine.edits()[2:], (("settle",), ("make_way", (), "near", 16)))

    def test_the_very_machine(self):
        machine = Machine(T, ROOMS)
        console, other = Console(machine), Console(machine)
        self.answers(console, ("unplug 0", "ok 1"))
        self.answers(other, ("undo", "ok 0"))
        machine.unplug((1,))
        self.answers(console, ("tree", "(disk[f20],-)"), ("undo", "ok 0"), ("undo", "error NothingToUndo"))
        self.assertEqual((len(console.history), len(other.history)), (4, 1))

    def test_queries(self):
        machine = HotMachine(tree(*T[2], device("none")), ROOMS)
        console = Console(machine)
        self.answers(
            console, ("tree", "(disk[f20],east+s(net[n12,n4],-),none[])"), ("free far", "4294967296^21"),
            ("free near", "0^14"), ("where disk", "4294967296^20"), ("where east", "- 0^13"),
            ("where net", "0^12 4096^4"), ("where none", "none"), ("where zz", "error NoName"),
            ("ask 4100", "down:east hit:net:1"), ("ask 0", "down:east hit:net:0"), ("ask 9000", "lost:."),
            ("ask 8191", "down:east lost:1"), ("ask 281474976710655", "lost:."), ("ask 281474976710656", "error NoAddress"),
            ("ask 99999999999999999999", "error NoAddress"), ("ask net 4294967296", "up:east hit:disk:0"),
            ("ask net 9000", "up:east top"), ("ask disk 4096", "down:east hit:net:1"), ("ask east 0", "error NoName"),
            ("ask zz 99999999999999999999", "error NoName"), ("ask disk 99999999999999999999", "error NoAddress"),
            ("ask none 8191", "down:east lost:1"), ("where " + "z" * 900, "error NoName"),
        )
        self.assertEqual(machine.version, 0)
        self.answers(console, ("reserve 8192^4", "ok 1"), ("free near", "0^13 8208^4 8224^5 8256^6 8320^7 8448^8 8704^9 "
                                                           "9216^10 10240^11 12288^12"),
                     ("reserve 8208^4", "ok 2"), ("free near", "0^13 8224^5 8256^6 8320^7 8448^8 8704^9 9216^10 10240^11 "
                                                               "12288^12"))
        console = Console(Machine(tree(None), ((), ())))
        self.answers(console, ("free far", "-"), ("free near", "-"), ("tree", "(-)"), ("ask 0", "lost:."))
        deep = tree(None, bridge("a", None, bridge("b", device("c", ("near", 16)))))
        self.answers(Console(Machine(deep, ((), ((0, 4096),)))), ("ask 16", "down:a down:b lost:1.1"))

    def test_errors(self):
        hot = HotMachine(T, ROOMS)
        rows = [
            ("plug . a[]", "NoPart"), ("plug 9 a[]", "NoPart"), ("plug 0.0 a[]", "NoPart"),
            ("plug 99999999999999999999 a[]", "NoPart"), ("plug 0 a[]", "Taken"), ("plug 1.1 disk[]", "BadTree"),
            ("plug 1.1 a[f0]", "BadTree"), ("plug 1.1 a[f99]", "BadTree"), ("plug 1.1 abcdefghi[]", "BadTree"),
            ("plug 1.1 a(-,-,-,-,-,-,-,-,-)", "BadTree"), ("plug 1.1 " + NINE, "BadTree"),
            ("unplug .", "NoPart"), ("unplug 2", "NoPart"), ("unplug 1.1", "Empty"), ("reserve 16384^4", "NoBlock"),
            ("release 0^4", "NoBlock"), ("undo", "NothingToUndo"),
        ]
        plain = [("plug 1.1 a[n13]", "NoAssignment"), ("reserve 4294967296^20", None), ("reserve 4294967296^4", "NoAssignment")]
        for line, name in rows + [("plug 1.1 a[n13]", "NoSpace"), ("reserve 0^4", "Occupied"), ("way 9 near 4", "NoPart"),
                                  ("way 0 near 4", "NoPart"), ("way 1.1 near 4", "NoPart"), ("way . near 3", "NoSize"),
                                  ("way . near 0", "NoSize"), ("way . near 49", "NoSize"), ("way . near 99", "NoSize"),
                                  ("way 1 far 4", "NoWindow"), ("way . near 48", "NoSpace")]:
            self.answers(Console(hot), (line, "error " + name))
        machine = Machine(T, (((FAR, 2 ** 21),), ((0, 8192),)))
        for line, name in rows + plain[:1]:
            self.answers(Console(machine), (line, "error " + name))
        self.assertEqual((hot.version, machine.version), (0, 0))
        self.answers(Console(machine), ("reserve 4294967296^20", "ok 1"), ("reserve 4296015872^4", "error NoAssignment"),
                     ("reserve 4294967296^20", "error NoBlock"))
        many = Machine(tree(), ((), tuple((64 * at, 32) for at in range(127)) + ((2 ** 20, 64),)))
        self.answers(Console(many), ("reserve 1048592^4", "error TooMany"))
        full = HotMachine(T, ROOMS)
        for _ in range(40):
            full.settle()
        self.answers(Console(full), ("settle", "error TooManyEdits"), ("plug 9 a[]", "error TooManyEdits"),
                     ("undo", "ok 39"))

    def test_busy(self):
        machine = HotMachine(T, ROOMS)
        console = Console(machine)

        def on_step(given):
            self.answers(console, ("undo", "error Busy"), ("unplug 9", "error Busy"), ("settle", "error Busy"),
                         ("way . near 4", "error Busy"), ("unplug  9", UNKNOWN), ("tree", tree_text(given.tree)),
                         ("ask 0", "down:east hit:net:0"))

        self.assertEqual(machine.run([("unplug", (0,)), ("settle",)], on_step=on_step), 2)
        self.answers(console, ("undo", "ok 1"))


class Forms(unittest.TestCase):
    def setUp(self):
        self.machine = HotMachine(T, ROOMS)
        self.console = Console(self.machine)

    def unknown(self, *lines):
        for line in lines:
            self.assertEqual(self.console.execute(line), UNKNOWN, line)
        self.assertEqual(seen(self.machine), seen(HotMachine(T, ROOMS)))

    def test_words(self):
        good = ["plug 1.1 a[]", "unplug 0", "reserve 8192^4", "release 0^4", "undo", "way . far 4", "settle", "tree",
                "free far", "where net", "ask 5", "ask net 5"]
        for line in good:
            self.assertNotEqual(Console(self.machine.copy()).execute(line), UNKNOWN)
            self.unknown(line + " ", " " + line, line + " 1", line + " a", line.replace(" ", "  "), line + "\n",
                         line.replace(" ", "\n"), line.upper(), line[1:], line.replace(" ", "\t"), "\n" + line) \
                if " " in line else self.unknown(line + " ", " " + line, line + " 1", line + " a", line + "\n",
                                                 line.upper(), line[1:], "\n" + line)
            if " " in line and line != "ask net 5":
                self.unknown(line.rpartition(" ")[0])
        self.unknown("", " ", "\n", "help", "plug", "mark east +s", "run", "copy", "version", "ask", "ask net", "way 0 4",
                     "free", "free both", "free Far", "where", "where NET", "where net1", "where -", "where 0")

    def test_values_that_are_no_texts(self):
        for value in OTHERS + [HUGE]:
            if not isinstance(value, str):
                self.unknown(value)
                self.assertEqual(self.console.history[-1], (None, UNKNOWN))
            else:
                self.unknown(value)
                self.assertEqual(self.console.history[-1], (value, UNKNOWN))

    def test_integers(self):
        for word in ("", "+1", "-1", "01", "00", "1 ", "1.0", "1_0", "0x1", "1e3", "a", "^", "9" * 21, "1" * 1900, "\n1"):
            self.unknown("ask " + word, "ask net " + word)
            if word != "1.0":
                self.unknown("unplug " + word, "unplug 1." + word, "unplug " + word + ".1", "plug " + word + " a[]")
        for word in ("", "+4", "-4", "04", "100", "444", "a", "4.0", "4^4"):
            self.unknown("way . near " + word)
        for path in ("..", "1.", ".1", "1..1", "1,1", "()", "(1,)", "1.1.", "-", "1.01"):
            self.unknown("unplug " + path, "plug " + path + " a[]", "way " + path + " near 4")
        self.assertEqual(self.console.execute("ask " + "9" * 20), "error NoAddress")
        self.assertEqual(self.console.execute("unplug " + ".".join(["9" * 20] * 50)), "error NoPart")

    def test_kinds_names_and_blocks(self):
        for word in ("", "f", "Far", "FAR", "both", "far,near", "0"):
            self.unknown("way . " + word + " 4", "free " + word)
        for word in ("", "A", "a1", "a-", "a.b", "None", "a\n"):
            self.unknown("where " + word, "ask " + word + " 0")
        for word in ("", "0", "^4", "0^", "8^4", "0^49", "0^3", "0^04", "00^4", "0^444", "0^4^4", "-", "281474976710656^4",
                     "16^5", "+0^4", "0^4 32^4", "0 ^4", "a^b"):
            self.unknown("reserve " + word, "release " + word)

    def test_parts(self):
        for word in ("", "-", "a", "[]", "()", "(a[])", "a[f]", "a[f04]", "a[x4]", "a[f4]]", "a[f4],b[]", "a[f4,]", "A[]",
                     "a+s[]", "a+s+h()", "a+(", "a(", "a(-", "a(,)", "a[f4", "a1[]", "a[f123]", "a(b)", "+s(a[])", "-a[]",
                     "a[]\n", NINE[:18] + "j[]" + NINE[18:], NINE[:18] + "j()" + NINE[18:], NINE + ")", NINE[:-1], "None",
                     "a()b()"):
            self.unknown("plug 1.1 " + word, "plug 9 " + word, "plug . " + word)
        self.assertEqual(self.console.execute("plug 1.1 " + NINE), "error BadTree")
        self.assertEqual(self.console.execute("plug 1.1 a+h+s(b[],-,c+h(),d+s(-))"), "ok 1")
        self.assertEqual(tree_text(self.machine.tree), "(disk[f20],east+s(net[n12,n4],a+h+s(b[],-,c+h(),d+s(-))))")
        self.machine.undo()

    def test_hot_commands(self):
        for owner in (Machine, LoggedMachine):
            console = Console(owner(T, ROOMS))
            for line in ("settle", "way . far 4", "way 9 near 99"):
                self.assertEqual(console.execute(line), UNKNOWN)


class History(unittest.TestCase):
    def test_the_last_twenty(self):
        console = Console(Machine(T, ROOMS))
        self.assertEqual(console.history, ())
        rows = []
        for many in range(30):
            line = "ask " + str(many) if many % 3 else None
            rows.append((line, console.execute(line)))
            self.assertEqual(console.history, tuple(rows[-20:]))
        self.assertIs(type(console.history), tuple)
        with self.assertRaises(AttributeError):
            console.history = ()

    def test_all_answers_are_texts(self):
        console = Console(HotMachine(T, ROOMS))
        for value in OTHERS + ["unplug 0", "undo", "undo", "tree", "ask 0", "settle"]:
            self.assertIs(type(console.execute(value)), str)


class RandomLines(unittest.TestCase):
    def line(self, name, arguments):
        """The line of a call, None if there is no such line."""
        if name == "plug" and type(arguments[0]) is tuple and True not in arguments[0][:1]:
            part = arguments[1]
            if type(part) is tuple and len(part) in (3, 4) and part[1] != "A" and part != ("bridge", "a", (), ())[:3]:
                return f"plug {path_text(arguments[0])} {part_text(part)}"
        if name == "unplug" and type(arguments[0]) is tuple and arguments[0] != (True,):
            return f"unplug {path_text(arguments[0])}"
        if name in ("reserve", "release"):
            block = arguments[0]
            if type(block) is tuple and block[1] >= 16:
                return f"{name} {block[0]}^{block[1].bit_length() - 1}"
        if name == "make_way" and type(arguments[0]) is tuple and arguments[0] != (True,):
            if arguments[1] != "both" and arguments[2] != 24:
                return f"way {path_text(arguments[0])} {arguments[1]} {arguments[2].bit_length() - 1}"
        return name if name in ("undo", "settle") else None

    def test_against_calls(self):
        source = random.Random(5)
        seen_words = set()
        for seed in range(16):
            hot = seed % 2 == 0
            machine = (HotMachine if hot else Machine)(SMALL, TIGHT)
            mirror, calls, console = Mirror(SMALL, TIGHT, hot), Calls(seed, hot), Console(machine)
            for _ in range(80):
                name, *arguments = calls.call(mirror)
                line = self.line(name, arguments)
                if line is None:
                    continue
                try:
                    answer = f"ok {mirror.call(name, *arguments)}"
                except (ValueError, LookupError) as error:
                    answer = "error " + type(error).__name__
                self.assertEqual(console.execute(line), answer, line)
                seen_words.add(answer.split(" ")[-1] if answer[0] == "e" else line.split(" ")[0])
                self.assertEqual(seen(machine)[:5], (
                    mirror.tree, mirror.rooms, mirror.reserved, mirror.free(), mirror.rows))
                self.check(machine, console, source)
        self.assertTrue(seen_words >= {
            "plug", "unplug", "reserve", "release", "undo", "way", "settle", "NoSpace", "NoAssignment", "Occupied",
            "NoPart", "Taken", "Empty", "NothingToUndo", "NoWindow", "BadTree"}, seen_words)

    def check(self, machine, console, source):
        self.assertEqual(parse_tree(console.execute("tree")), machine.tree)
        self.assertEqual(console.execute("free near"), room_text(machine.free[1]))
        self.assertEqual(console.execute("free far"), room_text(machine.free[0]))
        for _, part in list(walked(machine.tree))[:4]:
            row = machine.where(part[1])
            blocks = row[1] if len(row) == 2 else row[1:]
            texts = ["-" if block is None else f"{block[0]}^{block[1].bit_length() - 1}" for block in blocks]
            self.assertEqual(console.execute("where " + part[1]), " ".join(texts) or "none")
            for block in blocks:
                if block is not None:
                    self.asked(machine, console, None, block[0] + source.randrange(block[1]))
                    if part[0] == "device":
                        self.asked(machine, console, part[1], block[0])
                        self.asked(machine, console, part[1], source.randrange(2 ** 15))

    def asked(self, machine, console, origin, address):
        words = []
        for step in machine.follow(origin, address):
            words.append(step[0] + ":" + path_text(step[1]) if step[0] == "lost" else ":".join(map(str, step)))
        line = f"ask {address}" if origin is None else f"ask {origin} {address}"
        self.assertEqual(console.execute(line), " ".join(words))


if __name__ == "__main__":
    unittest.main()
