"""Machines whose blocks stay where they are while they are edited, and machines that keep a log."""

from buswindows.changes import State, ground_behind
from buswindows.hotrows import rows_behind
from buswindows.machines import Machine


class HotMachine(Machine):
    """A machine whose edits move no block but by make_way and settle."""

    NAMES = ("make_way", "mark", "plug", "release", "reserve", "settle", "unplug")

    def make_way(self, path, kind, size):
        """Make a free block of a kind and size on a segment."""
        return self._edited(("make_way", path, kind, size))

    def settle(self):
        """Make the assignment the first one."""
        return self._edited(("settle",))

    def _behind(self, edit):
        """Return the state behind an edit."""
        state = self._states[-1]
        whole, held, spaces = ground_behind(state, edit)
        return State(whole, held, spaces, rows_behind(state, whole, edit))


class LoggedMachine(Machine):
    """A machine that keeps a log of its calls."""

    def __init__(self, tree, rooms):
        super().__init__(tree, rooms)
        self._log = ()

    @property
    def log(self):
        """The pairs of name and version of all calls that did what they should."""
        return self._log

    def copy(self):
        """Return a machine of the same class with the same edits in effect and the same log."""
        twin = super().copy()
        twin._log = self._log
        return twin

    def _noted(self, name):
        """Take notice of a call that did what it should, and return the new version."""
        version = super()._noted(name)
        self._log = self._log + ((name, version),)
        return version


class LoggedHotMachine(LoggedMachine, HotMachine):
    """A machine that does what both do."""
