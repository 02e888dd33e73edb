"""Windows and assignments: blocks for a whole tree, and refusals if there are none."""

from buswindows.bounds import GRAIN
from buswindows.errors import NoAssignment, NoIndex
from buswindows.numbering import digits_of, number_of, number_of_rows
from buswindows.placings import (
    count_placings, first_placing, placing_at, placing_index, reason, reason_holds, stand_apart,
)
from buswindows.rooms import is_block
from buswindows.segments import (
    KINDS, are_rows, blocks_at, least_window, room_above, rows_with, segment_paths, standing_on,
)
from buswindows.trees import part_at, parts_in_order
from buswindows.values import is_tuple_of, is_within


class Stand:
    """What stands of a kind on the segment with a path: places and their sizes, part by part."""

    def __init__(self, path, kind, standing):
        self.path = path
        self.kind = kind
        self.places = [place for place, size in standing]
        self.sizes = tuple([size for place, size in standing])


def least_windows(tree):
    """Return (name, far, near) for each bridge, with the least sizes of its windows."""
    return tuple([
        (part[1], least_window(part, "far"), least_window(part, "near"))
        for path, part in parts_in_order(tree) if part[0] == "bridge"
    ])


def wanted(tree, kind):
    """Return the sizes of a kind on the top segment."""
    return tuple([size for place, size in standing_on(tree, (), kind)])


def refusal(tree, rooms):
    """Return None if there is an assignment, otherwise the kind and the reason why there is none."""
    for kind, room in zip(KINDS, rooms):
        why = reason(room, wanted(tree, kind))
        if why is not None:
            return (kind, why)
    return None


def refusal_holds(tree, rooms, value):
    """Return whether value is a refusal."""
    if not is_tuple_of(value, 2) or value[0] not in KINDS:
        return False
    kind, why = value
    return reason_holds(rooms[KINDS.index(kind)], wanted(tree, kind), why)


def assignment_holds(tree, rooms, value):
    """Return whether value is an assignment, with whatever windows."""
    if not are_rows(tree, value, _fits):
        return False
    blocks = blocks_at(tree, value)
    return all([
        stand_apart(_room_of(stand, rooms, blocks), [blocks[place] for place in stand.places])
        for stand in _stands(tree)
    ])


def _fits(part, key, block):
    """Return whether a value may be the block of an area of a device, or of a window of a bridge."""
    if part[0] == "device":
        return is_block(block) and block[1] == part[2][key][1]
    if least_window(part, key) == 0:
        return block is None
    return is_block(block) and block[1] >= GRAIN


def first_assignment(tree, rooms):
    """Return the assignment with least windows and the first placing on each segment."""
    why = refusal(tree, rooms)
    if why is not None:
        raise NoAssignment(why)
    blocks = {}
    for stand in _stands(tree):
        _set_blocks(blocks, stand, first_placing(_room_of(stand, rooms, blocks), stand.sizes))
    return rows_with(tree, blocks)


def count_assignments(tree, rooms):
    """Return the number of assignments with least windows."""
    return number_of_rows(_counts(tree, rooms))


def assignment_at(tree, rooms, index):
    """Return the assignment with least windows that has a number."""
    counts = _counts(tree, rooms)
    if not is_within(index, 0, number_of_rows(counts) - 1):
        raise NoIndex(index)
    blocks = {}
    for stand, digit in zip(_stands(tree), digits_of(index, counts)):
        _set_blocks(blocks, stand, placing_at(_room_of(stand, rooms, blocks), stand.sizes, digit))
    return rows_with(tree, blocks)


def assignment_index(tree, rooms, assignment):
    """Return the number of an assignment with least windows."""
    blocks = blocks_at(tree, assignment)
    digits = [
        placing_index(_room_of(stand, rooms, blocks), stand.sizes, tuple([blocks[place] for place in stand.places]))
        for stand in _stands(tree)
    ]
    return number_of(digits, _counts(tree, rooms))


def _stands(tree):
    """Return what stands on the segments in order, of the far kind before the near kind."""
    stands = []
    for path in segment_paths(tree):
        whole = part_at(tree, path)
        stands.extend([Stand(path, kind, standing_on(whole, path, kind)) for kind in KINDS])
    return stands


def _room_of(stand, rooms, blocks):
    """Return the room in which a stand has its blocks."""
    return room_above(rooms, stand.path, stand.kind, blocks)


def _set_blocks(blocks, stand, placing):
    """Put the blocks of a placing at the places of a stand."""
    for place, block in zip(stand.places, placing):
        blocks[place] = block


def _counts(tree, rooms):
    """Return the number of placings of each stand in order, one of them 0 if there is no assignment."""
    counts = []
    for stand in _stands(tree):
        if stand.path == ():
            room = rooms[KINDS.index(stand.kind)]
        else:
            # Wherever the window is going to lie, it has as many placings as here.
            room = ((0, least_window(part_at(tree, stand.path), stand.kind)),)
        counts.append(count_placings(room, stand.sizes))
    return counts
