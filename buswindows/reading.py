"""Reading the texts of trees and parts, a character at a time."""

from buswindows.errors import BadText
from buswindows.trees import LETTERS
from buswindows.words import DIGITS

OPENING = "(["
CLOSING = ")]"
MOST_OPEN = 9
KIND_LETTERS = {"f": "far", "n": "near"}
MARK_LETTERS = {"h": "hiding", "s": "strict"}


class Reader:
    """A text, and the place up to which it is read."""

    def __init__(self, text):
        self.text = text
        self.place = 0
        self.depth = 0

    def sees(self, characters):
        """Return whether the next character is one of these."""
        return self.place < len(self.text) and self.text[self.place] in characters

    def take(self, characters):
        """Read the next character and return it: it is one of these, or the text is wrong here."""
        if not self.sees(characters):
            raise BadText(self.place)
        character = self.text[self.place]
        if character in OPENING:
            if self.depth == MOST_OPEN:
                raise BadText(self.place)
            self.depth += 1
        elif character in CLOSING:
            self.depth -= 1
        self.place += 1
        return character

    def end(self):
        """Check that the whole text is read."""
        if self.place < len(self.text):
            raise BadText(self.place)


def read_tree(text):
    """Return what a text of the form of a tree writes, within the bounds of trees or not."""
    reader = Reader(text)
    marks = _marks(reader, reader.take("+("), "s")
    parts = _parts(reader)
    reader.end()
    return ("tree", marks, parts)


def read_part(text):
    """Return what a text of the form of a device or bridge writes, within the bounds of trees or not."""
    reader = Reader(text)
    part = _part(reader, reader.take(LETTERS))
    reader.end()
    return part


def _marks(reader, sign, letters):
    """Return the marks that begin with a sign that is read, each with one of these letters, and read the bracket."""
    marks = []
    while sign == "+":
        letter = reader.take(letters)
        marks.append(MARK_LETTERS[letter])
        # Behind the last one of the letters no mark may follow.
        letters = letters[letters.index(letter) + 1:]
        sign = reader.take("+(" if letters != "" else "(")
    return tuple(marks)


def _parts(reader):
    """Return the parts behind an opening bracket, and read the closing one."""
    parts = []
    sign = reader.take(")-" + LETTERS)
    while sign != ")":
        parts.append(None if sign == "-" else _part(reader, sign))
        sign = reader.take(",)")
        if sign == ",":
            sign = reader.take("-" + LETTERS)
    return tuple(parts)


def _part(reader, letter):
    """Return the device or bridge whose name begins with a letter that is read."""
    name = ""
    sign = letter
    while sign in LETTERS:
        name = name + sign
        sign = reader.take(LETTERS + "+([")
    if sign == "[":
        return ("device", name, _areas(reader))
    marks = _marks(reader, sign, "hs")
    return ("bridge", name, marks, _parts(reader))


def _areas(reader):
    """Return the areas behind an opening bracket, and read the closing one."""
    areas = []
    sign = reader.take("fn]")
    while sign != "]":
        areas.append((KIND_LETTERS[sign], 1 << _exponent(reader)))
        sign = reader.take(",]")
        if sign == ",":
            sign = reader.take("fn")
    return tuple(areas)


def _exponent(reader):
    """Return a number of one or two digits."""
    digits = reader.take(DIGITS)
    if digits != "0" and reader.sees(DIGITS):
        digits = digits + reader.take(DIGITS)
    return int(digits)
