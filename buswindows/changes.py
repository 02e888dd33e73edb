"""Changes: what edits do to the tree, the reserved blocks and the free rooms of a machine."""

from buswindows.bounds import MAX_ROOM, NEAR
from buswindows.errors import BadMarks, BadRooms, BadTree, Empty, NoBlock, NoName, NoPart, Taken, TooMany
from buswindows.rooms import block_around, is_block, room_error, union, without
from buswindows.segments import KINDS, is_block_of
from buswindows.trees import BRIDGE_MARKS, part_at, parts_in_order, path_of, tree_error, with_part
from buswindows.values import is_tuple_of


class State:
    """What a machine has: its tree, reserved blocks, pair of free rooms, and the rows of its assignment."""

    def __init__(self, whole, held, spaces, rows):
        self.whole = whole
        self.held = held
        self.spaces = spaces
        self.rows = rows


def check_start(tree, rooms):
    """Raise BadTree or BadRooms if a machine cannot begin with these."""
    error = tree_error(tree)
    if error is not None:
        raise BadTree(error)
    if not is_tuple_of(rooms, len(KINDS)) or not all([_is_room_of(kind, room) for kind, room in zip(KINDS, rooms)]):
        raise BadRooms()


def _is_room_of(kind, value):
    """Return whether value is a room with addresses of a kind alone."""
    return room_error(value) is None and all([is_block_of(kind, block) for block in value])


def _plugged(state, path, part):
    """Return the ground with a part in an empty slot."""
    if _in_slot(state.whole, path) is not None:
        raise Taken(path)
    if part is None:
        raise BadTree(None)
    return (with_part(state.whole, path, part), state.held, state.spaces)


def _unplugged(state, path):
    """Return the ground with an emptied slot."""
    if _in_slot(state.whole, path) is None:
        raise Empty(path)
    return (with_part(state.whole, path, None), state.held, state.spaces)


def _in_slot(tree, path):
    """Return the part in the slot at a path, None if it is empty."""
    part = part_at(tree, path)
    if path == ():
        raise NoPart(path)
    return part


def _marked(state, name, marks):
    """Return the ground with other marks of a bridge."""
    path = path_of(state.whole, name)
    bridge = part_at(state.whole, path)
    if bridge[0] != "bridge":
        raise NoName(name)
    if marks not in BRIDGE_MARKS:
        raise BadMarks(marks)
    return (with_part(state.whole, path, bridge[:2] + (marks, bridge[3])), state.held, state.spaces)


def _reserved(state, block):
    """Return the ground with one more reserved block."""
    if not is_block(block):
        raise NoBlock(block)
    space = state.spaces[_kind_index(block)]
    around = block_around(space, block[0])
    if around is None or around[1] < block[1]:
        raise NoBlock(block)
    rest = without(space, (block,))
    if len(rest) > MAX_ROOM:
        raise TooMany(MAX_ROOM)
    return (state.whole, state.held + (block,), _with_space(state.spaces, block, rest))


def _released(state, block):
    """Return the ground without one of the reserved blocks."""
    # Behind the first test no item of a block that is equal to one of these is a bool.
    if not is_block(block) or block not in state.held:
        raise NoBlock(block)
    held = tuple([other for other in state.held if other != block])
    space = union(state.spaces[_kind_index(block)], (block,))
    return (state.whole, held, _with_space(state.spaces, block, space))


def _kind_index(block):
    """Return the index of the kind of a block's first address."""
    return KINDS.index("far" if block[0] >= NEAR else "near")


def _with_space(spaces, block, space):
    """Return the pair of free rooms with another one of the kind of a block."""
    index = _kind_index(block)
    return spaces[:index] + (space,) + spaces[index + 1:]


CHANGES = {"mark": _marked, "plug": _plugged, "release": _released, "reserve": _reserved, "unplug": _unplugged}


def ground_behind(state, edit):
    """Return the ground, that is the tree, the reserved blocks and the pair of free rooms, behind an edit."""
    if edit[0] not in CHANGES:
        return (state.whole, state.held, state.spaces)
    change = CHANGES[edit[0]]
    arguments = edit[1:]
    return change(state, *arguments)


def described(tree):
    """Return a text with the numbers of devices, bridges and areas."""
    parts = [part for path, part in parts_in_order(tree)]
    devices = [part for part in parts if part[0] == "device"]
    areas = sum([len(part[2]) for part in devices])
    return f"{len(devices)} devices, {len(parts) - len(devices)} bridges, {areas} areas"
