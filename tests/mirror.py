"""Machines by the words of the document, with plain lists and rows by their names."""

import random

from buswindows.errors import (
    BadEdit, BadEdits, BadMarks, BadTree, Empty, NoAssignment, NoBlock, NoKind, NoName, NoPart, NoSize, NoSpace,
    NothingToUndo, NoWindow, Occupied, Rejected, Taken, TooMany, TooManyEdits,
)
from buswindows.moves import make_room, moved
from buswindows.placings import first_placing, reason
from buswindows.rooms import is_block, is_size, room_of, without
from buswindows.trees import tree_error
from buswindows.windows import first_assignment, refusal
from plain import FAR, apart, least_size, standing, walked

KINDS = ("far", "near")
COUNTS = {"mark": 2, "plug": 2, "release": 1, "reserve": 1, "unplug": 1}
HOT_COUNTS = {**COUNTS, "make_way": 3, "settle": 0}
MARKS = ((), ("hiding",), ("hiding", "strict"), ("strict",))


def kind_of(block):
    return "far" if block[0] >= FAR else "near"


def replaced(whole, path, part):
    """A tree or bridge with another part at a path."""
    parts = list(whole[-1])
    parts[path[0]] = part if len(path) == 1 else replaced(parts[path[0]], path[1:], part)
    return whole[:-1] + (tuple(parts),)


def found(whole, path):
    """The part at a path, or NoPart."""
    part = whole
    if type(path) is not tuple:
        raise NoPart(path)
    for slot in path:
        if part is None or part[0] == "device" or type(slot) is not int or not 0 <= slot < len(part[-1]):
            raise NoPart(path)
        part = part[-1][slot]
    return part


class Mirror:
    """A machine that is hot or not; a call raises what the machine is to raise."""

    def __init__(self, whole, rooms, hot):
        self.hot, self.rooms = hot, rooms
        self.tree, self.reserved = whole, ()
        self.rows = first_assignment(whole, rooms)
        self.done = []
        self.log = []

    # What a machine tells.

    def free(self):
        return tuple(without(room, room_of([block for block in self.reserved if kind_of(block) == kind]))
                     for kind, room in zip(KINDS, self.rooms))

    def row(self, name):
        return {row[0]: row for row in self.rows}[name]

    def state(self):
        return (self.tree, self.reserved, self.rows)

    def edits(self):
        return tuple(edit for edit, _ in self.done)

    # Calls, each of which leaves everything as it was if it raises an error.

    def call(self, name, *arguments):
        if name == "undo":
            if not self.done:
                raise NothingToUndo()
            self.tree, self.reserved, self.rows = self.done.pop()[1]
        elif name == "run":
            self.run(*arguments)
        else:
            self.edit(name, *arguments)
        self.log.append((name, len(self.done)))
        return len(self.done)

    def run(self, edits):
        if type(edits) not in (list, tuple) or len(edits) > 10:
            raise BadEdits()
        counts = HOT_COUNTS if self.hot else COUNTS
        for index, edit in enumerate(edits):
            if type(edit) is not tuple or not edit or type(edit[0]) is not str or len(edit) - 1 != counts.get(edit[0]):
                raise BadEdit(index)
        before = list(self.done), self.state()
        for index, edit in enumerate(edits):
            try:
                self.edit(*edit)
            except (ValueError, LookupError):
                self.done, (self.tree, self.reserved, self.rows) = before
                raise Rejected(index) from None

    def edit(self, name, *arguments):
        if len(self.done) == 40:
            raise TooManyEdits()
        before = self.state()
        try:
            getattr(self, name)(*arguments)
            if not self.hot:
                self.rows = first_assignment(self.tree, self.free())
        except (ValueError, LookupError):
            self.tree, self.reserved, self.rows = before
            raise
        self.done.append(((name,) + arguments, before))

    def plug(self, path, part):
        if path == () or found(self.tree, path) is not None:
            raise NoPart(path) if path == () else Taken(path)
        whole = replaced(self.tree, path, part)
        if part is None or tree_error(whole) is not None:
            raise BadTree(tree_error(whole))
        before, self.tree = self.tree, whole
        if not self.hot:
            self.check_refusal()
            return
        blocks = self.blocks()
        for kind in KINDS:
            self.place(before, path, part, kind, blocks)
        self.set_rows(blocks)

    def place(self, before, path, part, kind, blocks):
        """Give blocks to a new part, and windows to the bridges above it that have none."""
        above = [found(before, path[:many]) for many in range(len(path))]
        # The lowest standing segment is the one below above[at].
        at = max(many for many in range(len(path)) if many == 0 or blocks.get((above[many][1], kind)))
        if part[0] == "device" and at == len(path) - 1:
            new = [((part[1], index), size) for index, (other, size) in enumerate(part[2]) if other == kind]
        else:
            following = found(self.tree, path[:at + 1])
            new = [((following[1], kind), least_size(following, kind))] if following[0] == "bridge" else []
            new = [(key, size) for key, size in new if size and key not in blocks]
        room = self.free()[KINDS.index(kind)] if at == 0 else (blocks[(above[at][1], kind)],)
        room = without(room, room_of(self.standing(above[at], kind, blocks)))
        sizes = tuple(size for _, size in new)
        if reason(room, sizes) is not None:
            raise NoSpace(kind, reason(room, sizes))
        self.fill(new, room, kind, blocks)

    def fill(self, new, room, kind, blocks):
        """Give blocks to pairs of a key and a size, and to all that is below new windows."""
        for (key, _), block in zip(new, first_placing(room, tuple(size for _, size in new))):
            blocks[key] = block
            if key[1] == kind:
                bridge = [part for _, part in walked(self.tree) if part[1] == key[0]][0]
                keys = self.keys(bridge, kind)
                self.fill(list(zip(keys, standing(bridge, kind))), (block,), kind, blocks)

    def keys(self, whole, kind):
        """The keys of what stands of a kind on the segment of a tree or bridge, part by part."""
        keys = []
        for part in whole[-1]:
            if part is not None and part[0] == "device":
                keys += [(part[1], index) for index, (other, _) in enumerate(part[2]) if other == kind]
            elif part is not None and least_size(part, kind):
                keys.append((part[1], kind))
        return keys

    def standing(self, whole, kind, blocks):
        return [blocks[key] for key in self.keys(whole, kind) if key in blocks]

    def blocks(self):
        """All blocks, by the name of their part and the index or kind."""
        blocks = {}
        for row in self.rows:
            for key, block in enumerate(row[1]) if len(row) == 2 else zip(KINDS, row[1:]):
                if block is not None:
                    blocks[(row[0], key)] = block
        return blocks

    def set_rows(self, blocks):
        self.rows = tuple(
            (part[1], tuple(blocks[(part[1], index)] for index in range(len(part[2])))) if part[0] == "device"
            else (part[1], *[blocks.get((part[1], kind)) if least_size(part, kind) else None for kind in KINDS])
            for _, part in walked(self.tree))

    def unplug(self, path):
        if path == ():
            raise NoPart(path)
        if found(self.tree, path) is None:
            raise Empty(path)
        blocks = self.blocks()
        self.tree = replaced(self.tree, path, None)
        self.set_rows(blocks)

    def mark(self, name, marks):
        at = [(path, part) for path, part in walked(self.tree) if part[1] == name and part[0] == "bridge"]
        if not at:
            raise NoName(name)
        if type(marks) is not tuple or marks not in MARKS:
            raise BadMarks(marks)
        path, part = at[0]
        self.tree = replaced(self.tree, path, ("bridge", name, marks, part[3]))

    def reserve(self, block):
        free = self.free()
        if not is_block(block) or without((block,), free[KINDS.index(kind_of(block))]) != ():
            raise NoBlock(block)
        if len(without(free[KINDS.index(kind_of(block))], (block,))) > 128:
            raise TooMany(128)
        self.reserved += (block,)
        if not self.hot:
            self.check_refusal()
            return
        for kind in KINDS:
            if not all(apart(block, other) for other in self.standing(self.tree, kind, self.blocks())):
                raise Occupied(block)

    def check_refusal(self):
        if refusal(self.tree, self.free()) is not None:
            raise NoAssignment(refusal(self.tree, self.free()))

    def release(self, block):
        if not is_block(block) or block not in self.reserved:
            raise NoBlock(block)
        self.reserved = tuple(other for other in self.reserved if other != block)

    def make_way(self, path, kind, size):
        whole = found(self.tree, path)
        if whole is None or whole[0] == "device":
            raise NoPart(path)
        if type(kind) is not str or kind not in KINDS:
            raise NoKind(kind)
        if not is_size(size):
            raise NoSize(size)
        blocks = self.blocks()
        room = (blocks.get((whole[1], kind)),) if path else self.free()[KINDS.index(kind)]
        if room == (None,):
            raise NoWindow(path)
        keys = self.keys(whole, kind)
        before = tuple(blocks[key] for key in keys)
        if reason(room, tuple(held for _, held in before) + (size,)) is not None:
            raise NoSpace(kind, reason(room, tuple(held for _, held in before) + (size,)))
        for key, block in zip(keys, moved(room, before, make_room(room, before, size))):
            self.shift(key, kind, block[0] - blocks[key][0], blocks)
        self.set_rows(blocks)

    def shift(self, key, kind, offset, blocks):
        blocks[key] = (blocks[key][0] + offset, blocks[key][1])
        if key[1] == kind:
            bridge = [part for _, part in walked(self.tree) if part[1] == key[0]][0]
            for below in self.keys(bridge, kind):
                self.shift(below, kind, offset, blocks)

    def settle(self):
        self.rows = first_assignment(self.tree, self.free())


class Calls:
    """Calls of machines out of a random source: most of them may be done, some are wrong in one thing."""

    def __init__(self, seed, hot, sizes=(16, 32, 256, 4096)):
        self.source = random.Random(seed)
        self.hot, self.sizes = hot, sizes

    def call(self, mirror):
        choice = self.source.random()
        if choice < 0.1:
            return ("undo",)
        if choice < 0.2:
            edits = [self.edit(mirror) for _ in range(self.source.choice([0, 1, 2, 3, 10, 11]))]
            if self.source.random() < 0.2:
                edits.append(self.source.choice([None, ("undo",), ("plug", ()), ["settle"], ("settle",), ("make_way",)]))
            return ("run", self.source.choice([tuple, list])(edits))
        return self.edit(mirror)

    def edit(self, mirror):
        source = self.source
        names = ["plug"] * 5 + ["unplug"] * 3 + ["mark", "reserve", "reserve", "release"]
        name = source.choice(names + ["make_way", "make_way", "settle"] if self.hot else names)
        if name == "plug":
            return ("plug", self.path(mirror, empty=True), self.part(mirror))
        if name == "unplug":
            return ("unplug", self.path(mirror, empty=False))
        if name == "mark":
            names = [part[1] for _, part in walked(mirror.tree)] + ["zz"]
            return ("mark", source.choice(names), source.choice(MARKS + (("strict", "hiding"), None)))
        if name in ("reserve", "release"):
            blocks = list(mirror.reserved) if name == "release" else [
                block for room in mirror.free() for block in room]
            start, size = source.choice(blocks or [(0, 16)])
            part = min(size, source.choice(self.sizes)) if name == "reserve" else size
            return (name, (start + source.randrange(size // part) * part, part)
                    if source.random() < 0.95 else source.choice([(start, 8), None, (2 ** 47, 16), [start, size]]))
        if name == "make_way":
            paths = [()] + [path for path, part in walked(mirror.tree) if part[0] == "bridge"]
            path = source.choice(paths) if source.random() < 0.9 else self.path(mirror, empty=None)
            return (name, path, source.choice(KINDS + ("far", "near", "both")), source.choice(self.sizes + (8192, 24)))
        return ("settle",)

    def path(self, mirror, empty):
        """The path of a slot: of an empty one, of one that is not, or of any."""
        slots = {}
        for path, part in [((), mirror.tree)] + list(walked(mirror.tree)):
            if part[0] != "device":
                slots.update({path + (slot,): below for slot, below in enumerate(part[-1])})
        good = [path for path, part in slots.items() if empty is None or (part is None) == empty]
        if good and self.source.random() < 0.93:
            return self.source.choice(good)
        return self.source.choice(list(slots) + [(), (9,), (0, 0, 0, 0, 0, 0, 0, 0), None, [0], (True,)])

    def part(self, mirror, depth=0):
        source = self.source
        name = "".join(source.choice("abcdefgh") for _ in range(2))
        choice = source.random()
        if depth == 0 and choice < 0.04:
            return source.choice([None, "a", ("device", "a"), ("device", "A", ()), ("bridge", "a", (), ()), ()])
        if choice < 0.6 or depth > 2:
            kinds = source.choice([("far",), ("near",), KINDS])
            return ("device", name, tuple((source.choice(kinds), source.choice(self.sizes))
                                          for _ in range(source.randrange(4))))
        return ("bridge", name, source.choice(MARKS), tuple(
            self.part(mirror, depth + 1) if source.random() < 0.5 else None for _ in range(source.randrange(4))))
