"""Points 2, 3 and 34: texts of rooms and trees."""

import random
import re
import unittest

from buswindows.errors import BadText, BadTree
from buswindows.rooms import room_error, stretch
from buswindows.texts import parse_room, parse_tree, room_text, tree_text
from buswindows.trees import tree_error
from plain import bridge, device, some_tree, tree
from samples import HUGE, OTHERS, small_rooms

FAR = 2 ** 32
T = tree(device("disk", ("far", 2 ** 20)),
         bridge("east", device("net", ("near", 4096), ("near", 16)), None, marks=("strict",)))
SIZES = tuple(2 ** k for k in range(4, 32))
TREES = [T, tree(), tree(None), tree(None, None, marks=("strict",)), tree(*[None] * 8)]
TREES += [some_tree(seed, sizes=SIZES, bridges=8, devices=16, slots=8) for seed in range(80)]

CLOSING = {"(": ")", "[": "]"}
AREA = "[fn](0|[1-9][0-9]?)"


def matches(text):
    """Whether a text is that of a tree of this form: devices and bridges become empty slots, from within."""
    before = None
    while text != before:
        before = text
        text = re.sub(r"(?<![a-z+])[a-z]+(\[(" + AREA + "(," + AREA + r")*)?\]|(\+h)?(\+s)?\((-(,-)*)?\))", "-", text)
    return re.fullmatch(r"(\+s)?\((-(,-)*)?\)", text) is not None


def closed(text):
    """A text with all brackets closed that are open."""
    stack = []
    for letter in text:
        if letter in "([":
            stack.append(CLOSING[letter])
        elif letter in ")]" and stack:
            stack.pop()
    return text + "".join(reversed(stack))


def goes_on(text):
    """Whether the text of a tree of this form begins with this one."""
    return any(matches(closed(text + more)) for more in ("", "(", "s(", "a[]", "[]", "4", "f4"))


def wrong_place(text):
    """The position that parse_tree tells, None for the text of a tree of this form."""
    for place in range(len(text)):
        many = sum((letter in "([") - (letter in ")]") for letter in text[:place + 1])
        if (text[place] in "([" and many > 9) or not goes_on(text[:place + 1]):
            return place
    return None if matches(text) else len(text)


class Told(unittest.TestCase):
    def wrong(self, call, text, index):
        with self.assertRaises(BadText) as caught:
            call(text)
        self.assertEqual(caught.exception.index, index, text)


class Rooms(Told):
    def test_there_and_back(self):
        rooms = small_rooms(60, 40, 1) + [(), ((0, 2 ** 48),), stretch(16, 2 ** 48), ((2 ** 48 - 16, 16),)]
        rooms += [tuple((32 * at, 16) for at in range(128))]
        for room in rooms:
            text = room_text(room)
            self.assertEqual(text, " ".join(f"{start}^{size.bit_length() - 1}" for start, size in room) or "-")
            self.assertEqual(parse_room(text), room)
        self.assertEqual(len(room_text(tuple((32 * at, 16) for at in range(5000))).split(" ")), 5000)

    def test_no_texts(self):
        for value in OTHERS + [HUGE]:
            if not isinstance(value, str):
                self.wrong(parse_room, value, None)
                self.wrong(parse_tree, value, None)

    def test_words(self):
        good = "0^5 64^4"
        self.assertEqual(parse_room(good), ((0, 32), (64, 16)))
        for word in ("", "-", "0", "^", "0^", "^4", "00^4", "0^04", "0^3", "0^49", "0^444", "8^4", "16^5", "+0^4", "-0^4",
                     "0^4^4", "0^4\n", "\n0^4", "0 ^4", "0^-4", "1^4", "a^4", "0^a", "281474976710656^4", "0x0^4", "0^+4",
                     "9" * 1900 + "0^4", "0^4,", "(0, 16)", "0_0^4", "\t0^4"):
            if " " not in word:
                self.wrong(parse_room, word + " " + good, 0)
                self.wrong(parse_room, "0^5 " + word + " 96^4", 1)
                self.wrong(parse_room, good + " " + word, 2)
            if word != "-":
                self.wrong(parse_room, word, 0)
        self.assertEqual(parse_room("281474976710640^4"), ((2 ** 48 - 16, 16),))
        self.assertEqual(parse_room("0^48"), ((0, 2 ** 48),))

    def test_spaces(self):
        for text, index in (("", 0), (" ", 0), ("-  -", 0), (" -", 0), ("- ", 0), ("- -", 0), (" 0^5", 0), ("0^5 ", 1),
                            ("0^5  64^4", 1), ("0^5\n64^4", 0), ("0^5 64^4 -", 2), ("0^5\t64^4", 0)):
            self.wrong(parse_room, text, index)

    def test_words_that_are_no_room(self):
        for text, index in (("0^4 0^4", 1), ("0^5 16^4", 1), ("64^4 0^5", 1), ("0^4 16^4", 1), ("0^5 64^4 80^4", 2),
                            ("16^4 32^4", None), ("0^4 32^4 16^4 x", 2), ("0^4 32^4 x 16^4", 2)):
            if index is None:
                self.assertIsNone(room_error(parse_room(text)))
            else:
                self.wrong(parse_room, text, index)
        many = [f"{32 * at}^4" for at in range(200)]
        self.assertEqual(len(parse_room(" ".join(many[:128]))), 128)
        self.wrong(parse_room, " ".join(many[:129]), 128)
        self.wrong(parse_room, " ".join(many), 128)
        self.wrong(parse_room, " ".join(many[:100] + ["x"] + many[100:]), 100)


class Trees(Told):
    def test_there_and_back(self):
        for whole in TREES:
            self.assertIsNone(tree_error(whole))
            self.assertTrue(matches(tree_text(whole)))
            self.assertEqual(parse_tree(tree_text(whole)), whole)

    def test_some(self):
        for text, whole in (
            ("()", tree()), ("+s()", tree(marks=("strict",))), ("(-)", tree(None)), ("(-,-)", tree(None, None)),
            ("(a[])", tree(device("a"))), ("(a())", tree(bridge("a"))), ("(a(-))", tree(bridge("a", None))),
            ("(a+h())", tree(bridge("a", marks=("hiding",)))), ("(a+s())", tree(bridge("a", marks=("strict",)))),
            ("+s(a+h+s(b[f4,n31],-),c[f40])", tree(
                bridge("a", device("b", ("far", 16), ("near", 2 ** 31)), None, marks=("hiding", "strict")),
                device("c", ("far", 2 ** 40)), marks=("strict",))),
            ("(abcdefgh[])", tree(device("abcdefgh"))),
        ):
            self.assertEqual(parse_tree(text), whole)
            self.assertEqual(tree_text(whole), text)

    def test_wrong_places(self):
        for text, index in (
            ("", 0), ("+", 1), ("+s", 2), ("+h(", 1), ("s(", 0), ("(", 1), (")", 0), ("())", 2), ("() ", 2), (" ()", 0),
            ("(,)", 1), ("(-,)", 3), ("(--)", 2), ("(-a[])", 2), ("(a)", 2), ("(a", 2), ("(a,", 2), ("(a-", 2), ("(A[])", 1),
            ("(a[)", 3), ("(a(]", 3), ("(a[f4)", 5), ("(a[4])", 3), ("(a[f])", 4), ("(a[f04])", 5), ("(a[f00])", 5),
            ("(a[f123])", 6), ("(a[f4,])", 6), ("(a[,f4])", 3), ("(a[F4])", 3), ("(a[f4n4])", 5), ("(a[f-4])", 4),
            ("(a+[])", 3), ("(a+s[])", 4), ("(a+h[])", 4), ("(a+s+h())", 4), ("(a+s+s())", 4), ("(a+h+h())", 5),
            ("(a+h+s+s())", 6), ("(a+hs())", 4), ("(a+x())", 3), ("(a1[])", 2), ("(a_b[])", 2), ("()\n", 2),
            ("(a [])", 2), ("[]", 0), ("a[]", 0), ("(a[f4],b", 8), ("+s+s()", 2), ("(()", 1), ("([])", 1),
        ):
            self.assertEqual(wrong_place(text), index, text)
            self.wrong(parse_tree, text, index)

    def test_brackets(self):
        deep = "(" + "".join(letter + "(" for letter in "abcdefgh")
        self.assertEqual(deep.count("("), 9)
        for text, index in ((deep + "i[]" + ")" * 9, 18), (deep + "i()" + ")" * 9, 18), (deep + "i+s()" + ")" * 9, 20),
                            (deep, 17), (deep + "i", 18), (deep + "i+", 19), (deep + "-,x[", 20), (deep + "(", 17),
                            (deep + "iA", 18), (deep + ")" * 9 + "(", 26)):
            self.assertEqual(wrong_place(text), index, text)
            self.wrong(parse_tree, text, index)
        for text, path in ((deep + ")" * 9, (0,) * 7), (deep + "-" + ")" * 9, (0,) * 7)):
            with self.assertRaises(BadTree) as caught:
                parse_tree(text)
            self.assertEqual(caught.exception.error, (path, "depth"))
        # A bracket that is closed is not open any longer, and no other one is closed by it.
        for text, index in (("(z()," + deep[1:] + "i[", 22), ("(z[],y(x[])," + deep[1:] + "(", 28),
                            ("(z[],y(x[])," + deep[1:] + "i[", 29)):
            self.assertEqual(wrong_place(text), index, text)
            self.wrong(parse_tree, text, index)
        self.assertEqual(len(parse_tree("(" + ",".join(letter + "[]" for letter in "abcdefgh") + ")")[2]), 8)

    def test_random_changes(self):
        source = random.Random(2)
        places = 0
        for whole in TREES * 4:
            text = tree_text(whole)[:60]
            text = closed(text) if source.random() < 0.5 else text
            for _ in range(source.randrange(3)):
                at = source.randrange(len(text) + 1)
                text = text[:at] + source.choice("()[],-+hsfn0123456789az AB^") * source.randrange(2) + text[
                    at + source.randrange(2):]
            place = wrong_place(text)
            if place is None:
                try:
                    self.assertEqual(tree_text(parse_tree(text)), text)
                except BadTree as error:
                    self.assertIsNotNone(error.error)
            else:
                self.wrong(parse_tree, text, place)
                places += 1
        self.assertGreater(places, 100)

    def test_trees_out_of_bounds(self):
        for text, error in (
            ("(abcdefghi[])", ((0,), "name")), ("(a[],a[])", ((1,), "twice")), ("(a(a[]))", ((0, 0), "twice")),
            ("(a[f0])", ((0,), "area")), ("(a[f3])", ((0,), "area")), ("(a[f41])", ((0,), "area")),
            ("(a[n32])", ((0,), "area")), ("(a[n99])", ((0,), "area")), ("(a[f4,f4,f4,f4,f4])", ((0,), "areas")),
            ("(-,-,-,-,-,-,-,-,-)", ((), "parts")), ("(a(-,-,-,-,-,-,-,-,-))", ((0,), "parts")),
            ("(a(b(c(d(e(f(g())))))))", ((0,) * 7, "depth")),
            ("(" + "a" * 1990 + "[])", ((0,), "name")), ("(-," + "b" * 9 + "())", ((1,), "name")),
            ("(" + ",".join(f"{first}(" + ",".join(f"{first}{second}[]" for second in "abcdef") + ")"
                            for first in "xyz") + ")", ((), "devices")),
            ("(" + ",".join(f"{first}(" + ",".join(f"{first}{second}()" for second in "abc") + ")"
                            for first in "xyz") + ")", ((), "bridges")),
        ):
            with self.assertRaises(BadTree) as caught:
                parse_tree(text)
            self.assertEqual(caught.exception.error, error, text)

    def test_texts_that_are_read_tell_their_trees_again(self):
        for text in ("(a(b(c(d(e(f(g[]))))))", "+s(a+h+s(-,b[f40]),c[n31,f4])", "(-,-,-,-,-,-,-,-)"):
            text = closed(text)
            self.assertEqual(tree_text(parse_tree(text)), text)


if __name__ == "__main__":
    unittest.main()
