"""Machines: a tree in rooms with an assignment, changed by edits that can be undone."""

from buswindows.bounds import BATCH
from buswindows.changes import State, check_start, described, ground_behind
from buswindows.errors import (
    BadEdit, BadEdits, BusError, Busy, NoKind, NoName, NoPart, NoSize, NothingToUndo, NoVersion, Rejected, TooManyEdits,
)
from buswindows.requests import follow
from buswindows.values import is_within
from buswindows.windows import first_assignment

# How many arguments each editing method takes, of hot machines, too.
ARGUMENTS = {"make_way": 3, "mark": 2, "plug": 2, "release": 1, "reserve": 1, "settle": 0, "unplug": 1}


class Machine:
    """A machine whose assignment is always the first one of its tree in its free rooms."""

    MOST_EDITS = 40
    NAMES = ("mark", "plug", "release", "reserve", "unplug")

    def __init__(self, tree, rooms):
        check_start(tree, rooms)
        self._rooms = rooms
        self._edits = ()
        # The state at first, and behind each of the edits.
        self._states = (State(tree, (), rooms, first_assignment(tree, rooms)),)
        self._busy = False

    @classmethod
    def is_edit(cls, value):
        """Return whether value is an edit of this class."""
        if not isinstance(value, tuple) or len(value) == 0 or value[0] not in cls.NAMES:
            return False
        return len(value) - 1 == ARGUMENTS[value[0]]

    def plug(self, path, part):
        """Put a device or bridge into an empty slot."""
        return self._edited(("plug", path, part))

    def unplug(self, path):
        """Empty a slot."""
        return self._edited(("unplug", path))

    def mark(self, name, marks):
        """Give a bridge other marks."""
        return self._edited(("mark", name, marks))

    def reserve(self, block):
        """Add a block to the reserved ones."""
        return self._edited(("reserve", block))

    def release(self, block):
        """Take a reserved block away."""
        return self._edited(("release", block))

    def undo(self):
        """Remove the last edit in effect."""
        self._check_idle()
        if len(self._edits) == 0:
            raise NothingToUndo()
        self._edits = self._edits[:-1]
        self._states = self._states[:-1]
        return self._noted("undo")

    def run(self, edits, *, on_step=None):
        """Do all of some edits or, if one of them or on_step raises an error, none of them."""
        self._check_idle()
        if not isinstance(edits, (list, tuple)) or len(edits) > BATCH:
            raise BadEdits()
        batch = tuple(edits)
        for index, edit in enumerate(batch):
            if not self.is_edit(edit):
                raise BadEdit(index)
        self._do_all(batch, on_step)
        return self._noted("run")

    @property
    def tree(self):
        """The tree."""
        return self._states[-1].whole

    @property
    def rooms(self):
        """The rooms as passed."""
        return self._rooms

    @property
    def reserved(self):
        """The reserved blocks, in the order in which they were reserved."""
        return self._states[-1].held

    @property
    def free(self):
        """The rooms without the reserved blocks."""
        return self._states[-1].spaces

    @property
    def assignment(self):
        """The assignment of the tree in the free rooms."""
        return self._states[-1].rows

    @property
    def version(self):
        """The number of the edits in effect."""
        return len(self._edits)

    def follow(self, origin, address):
        """Return the steps of a request for an address that begins at a device, or at the top if origin is None."""
        return follow(self.tree, self.assignment, origin, address)

    def where(self, name):
        """Return the row of the assignment with a name."""
        for row in self.assignment:
            if row[0] == name:
                return row
        raise NoName(name)

    def edits(self):
        """Return the edits in effect, the earliest one first."""
        return self._edits

    def tree_at(self, version):
        """Return the tree after so many of the edits in effect."""
        if not is_within(version, 0, len(self._edits)):
            raise NoVersion(version)
        return self._states[version].whole

    def copy(self):
        """Return a machine of the same class with the same edits in effect."""
        twin = self._made(self.tree_at(0), self._rooms)
        twin._edits = self._edits
        twin._states = self._states
        return twin

    def __len__(self):
        return len(self._edits)

    def __str__(self):
        return f"{described(self.tree)}, {len(self._edits)} edits"

    def __eq__(self, other):
        return (isinstance(other, Machine) and self.tree == other.tree and self.rooms == other.rooms
                and self.reserved == other.reserved and self.assignment == other.assignment)

    @classmethod
    def _made(cls, tree, rooms):
        """Return a new machine of this class."""
        return cls(tree, rooms)

    def _check_idle(self):
        """Raise Busy while on_step of this machine runs."""
        if self._busy:
            raise Busy()

    def _edited(self, edit):
        """Do the edit of a call, and return the new version."""
        self._check_idle()
        self._do(edit)
        return self._noted(edit[0])

    def _do(self, edit):
        """Do an edit."""
        if len(self._edits) >= self.MOST_EDITS:
            raise TooManyEdits()
        state = self._behind(edit)
        self._edits = self._edits + (edit,)
        self._states = self._states + (state,)

    def _do_all(self, batch, on_step):
        """Do edits, and undo them if one of them or on_step raises an error."""
        edits = self._edits
        states = self._states
        self._busy = True
        try:
            for index, edit in enumerate(batch):
                self._do_in_batch(index, edit)
                if on_step is not None:
                    on_step(self)
            edits = self._edits
            states = self._states
        finally:
            self._edits = edits
            self._states = states
            self._busy = False

    def _do_in_batch(self, index, edit):
        """Do the edit of a batch with an index."""
        try:
            self._do(edit)
        except (BusError, NoKind, NoName, NoPart, NoSize):
            raise Rejected(index) from None

    def _behind(self, edit):
        """Return the state behind an edit."""
        whole, held, spaces = ground_behind(self._states[-1], edit)
        return State(whole, held, spaces, first_assignment(whole, spaces))

    def _noted(self, name):
        """Take notice of a call that did what it should, and return the new version."""
        return len(self._edits)
