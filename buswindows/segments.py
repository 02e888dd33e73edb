"""What stands on the segments of a tree, for the modules that give it blocks.

A place is where a block belongs, a pair of the path of a part and a key: the
index of an area of a device, the kind of a window of a bridge.
"""

from buswindows.bounds import GRAIN, NEAR
from buswindows.rooms import is_block
from buswindows.trees import parts_in_order, parts_of
from buswindows.values import is_tuple_of

KINDS = ("far", "near")


def is_block_of(kind, value):
    """Return whether value is a block with addresses of a kind alone."""
    if not is_block(value):
        return False
    start, size = value
    return start >= NEAR if kind == "far" else start + size <= NEAR


def segment_paths(tree):
    """Return the paths of the segments in order: the top segment, then those below the bridges in preorder."""
    return [()] + [path for path, part in parts_in_order(tree) if part[0] == "bridge"]


def standing_on(whole, path, kind):
    """Return the pairs of place and size of a kind on the segment of the tree or bridge with a path, part by part."""
    found = []
    for slot, part in enumerate(parts_of(whole)):
        found.extend([((path + (slot,), key), size) for key, size in _sizes_of(part, kind)])
    return found


def _sizes_of(part, kind):
    """Return the pairs of key and size of a kind that a part has on its segment."""
    if part is None:
        return []
    if part[0] == "device":
        return [(index, size) for index, (other, size) in enumerate(part[2]) if other == kind]
    least = least_window(part, kind)
    return [(kind, least)] if least > 0 else []


def least_window(bridge, kind):
    """Return the least size of the window of a bridge, 0 if it does not need one."""
    below = sum([size for place, size in standing_on(bridge, (), kind)])
    if below == 0:
        return 0
    return 1 << (max(below, GRAIN) - 1).bit_length()


def room_above(rooms, path, kind, blocks):
    """Return the room for what stands of a kind on a segment, where blocks has the windows of the bridge above it."""
    if path == ():
        return rooms[KINDS.index(kind)]
    window = blocks.get((path, kind))
    return () if window is None else (window,)


def _keys_of(part):
    """Return what of a part has a block each: the indexes of its areas, or the kinds of its windows."""
    return list(range(len(part[2]))) if part[0] == "device" else list(KINDS)


def are_rows(tree, value, fits):
    """Return whether value has the form of an assignment or settings.

    fits(part, key, block) tells of any value whether it may be the block of a part with this key.
    """
    parts = parts_in_order(tree)
    if not is_tuple_of(value, len(parts)):
        return False
    return all([_is_row(part, row, fits) for (path, part), row in zip(parts, value)])


def _is_row(part, row, fits):
    """Return whether a value has the form of the row of a part."""
    if not is_tuple_of(row, 2 if part[0] == "device" else 3) or row[0] != part[1]:
        return False
    keys = _keys_of(part)
    blocks = row_blocks(row)
    return is_tuple_of(blocks, len(keys)) and all([fits(part, key, block) for key, block in zip(keys, blocks)])


def blocks_at(tree, rows):
    """Return the block, or None, of each place that the rows of an assignment or settings tell."""
    blocks = {}
    for (path, part), row in zip(parts_in_order(tree), rows):
        for key, block in zip(_keys_of(part), row_blocks(row)):
            blocks[(path, key)] = block
    return blocks


def rows_with(tree, blocks):
    """Return the rows of an assignment that has these blocks at their places, None at all others."""
    rows = []
    for path, part in parts_in_order(tree):
        found = tuple([blocks.get((path, key)) for key in _keys_of(part)])
        rows.append((part[1], found) if part[0] == "device" else (part[1],) + found)
    return tuple(rows)


def row_blocks(row):
    """Return the blocks of a row: of the areas of a device, or of the windows of a bridge, far and near."""
    return row[1] if len(row) == 2 else row[1:]
