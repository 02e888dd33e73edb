"""Consoles: machines worked by lines of text."""

from buswindows.errors import (
    BadText, BadTree, Busy, Empty, NoAddress, NoAssignment, NoBlock, NoName, NoPart, NoSize, NoSpace, NothingToUndo,
    NoWindow, Occupied, Taken, TooMany, TooManyEdits,
)
from buswindows.hot import HotMachine
from buswindows.reading import read_part
from buswindows.segments import KINDS, row_blocks
from buswindows.texts import room_text, tree_text
from buswindows.trees import LETTERS
from buswindows.words import EXPONENT_DIGITS, MOST_DIGITS, block_of, block_text, integer_of, path_of_word, path_text

UNKNOWN = "unknown command"
KEPT_LINES = 20
EDIT_WORDS = ("plug", "release", "reserve", "settle", "undo", "unplug", "way")
HOT_WORDS = ("settle", "way")

# What stands behind the first word of a command, by this word and the number of the others.
FORMS = {
    ("plug", 2): ("PATH", "PART"), ("unplug", 1): ("PATH",), ("reserve", 1): ("BLOCK",), ("release", 1): ("BLOCK",),
    ("undo", 0): (), ("way", 3): ("PATH", "KIND", "SIZE"), ("settle", 0): (), ("tree", 0): (), ("free", 1): ("KIND",),
    ("where", 1): ("NAME",), ("ask", 1): ("ADDRESS",), ("ask", 2): ("NAME", "ADDRESS"),
}


class Console:
    """A machine, and the lines that were given to it."""

    def __init__(self, machine):
        self._machine = machine
        self._lines = ()

    def execute(self, line):
        """Do what a line says, and return the answer."""
        if isinstance(line, str):
            row = (line, _answer(self._machine, line.split(" ")))
        else:
            row = (None, UNKNOWN)
        self._lines = (self._lines + (row,))[-KEPT_LINES:]
        return row[1]

    @property
    def history(self):
        """The pairs of line and answer of the last calls, the oldest one first."""
        return self._lines


def _answer(machine, words):
    """Return the answer to the words of a line."""
    values = _values(words)
    if values is None or (words[0] in HOT_WORDS and not isinstance(machine, HotMachine)):
        return UNKNOWN
    if words[0] in EDIT_WORDS:
        return _edit_answer(machine, words[0], values)
    return _query_answer(machine, words[0], values)


def _values(words):
    """Return what the words behind the first one mean, None if this is no command."""
    form = FORMS.get((words[0], len(words) - 1))
    if form is None:
        return None
    values = [_value(name, word) for name, word in zip(form, words[1:])]
    return None if None in values else values


def _value(name, word):
    """Return what a word means where one of a form is asked for, or None."""
    if name == "PATH":
        return path_of_word(word)
    if name == "PART":
        return _part(word)
    if name == "BLOCK":
        return block_of(word)
    if name == "ADDRESS":
        return integer_of(word, MOST_DIGITS)
    if name == "KIND":
        return word if word in KINDS else None
    if name == "NAME":
        return word if word != "" and all([letter in LETTERS for letter in word]) else None
    exponent = integer_of(word, EXPONENT_DIGITS)
    return None if exponent is None else 1 << exponent


def _part(word):
    """Return the device or bridge that a word writes, within the bounds of trees or not, or None."""
    try:
        return read_part(word)
    except BadText:
        return None


def _edit_answer(machine, word, values):
    """Return the answer to the command with a word that edits the machine."""
    try:
        version = _edited(machine, word, values)
    except Busy:
        return "error Busy"
    except TooManyEdits:
        return "error TooManyEdits"
    except NothingToUndo:
        return "error NothingToUndo"
    except NoPart:
        return "error NoPart"
    except Taken:
        return "error Taken"
    except Empty:
        return "error Empty"
    except BadTree:
        return "error BadTree"
    except NoBlock:
        return "error NoBlock"
    except TooMany:
        return "error TooMany"
    except NoAssignment:
        return "error NoAssignment"
    except NoSpace:
        return "error NoSpace"
    except Occupied:
        return "error Occupied"
    except NoSize:
        return "error NoSize"
    except NoWindow:
        return "error NoWindow"
    return f"ok {version}"


def _edited(machine, word, values):
    """Do the command with a word that edits the machine, and return the new version."""
    if word == "plug":
        return machine.plug(values[0], values[1])
    if word == "unplug":
        return machine.unplug(values[0])
    if word == "reserve":
        return machine.reserve(values[0])
    if word == "release":
        return machine.release(values[0])
    if word == "undo":
        return machine.undo()
    if word == "way":
        return machine.make_way(values[0], values[1], values[2])
    return machine.settle()


def _query_answer(machine, word, values):
    """Return the answer to the command with a word that edits nothing."""
    try:
        return _told(machine, word, values)
    except NoName:
        return "error NoName"
    except NoAddress:
        return "error NoAddress"


def _told(machine, word, values):
    """Return what the command with a word asks for."""
    if word == "tree":
        return tree_text(machine.tree)
    if word == "free":
        return room_text(machine.free[KINDS.index(values[0])])
    if word == "where":
        return _row_text(machine.where(values[0]))
    origin = values[0] if len(values) == 2 else None
    return " ".join([_step_text(step) for step in machine.follow(origin, values[-1])])


def _row_text(row):
    """Return the texts of the blocks of a row of an assignment."""
    blocks = row_blocks(row)
    if blocks == ():
        return "none"
    return " ".join(["-" if block is None else block_text(block) for block in blocks])


def _step_text(step):
    """Return the word for a step of a request."""
    if step[0] in ("lost", "clash"):
        return f"{step[0]}:{path_text(step[1])}"
    return ":".join([str(item) for item in step])
