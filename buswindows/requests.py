"""Requests: what they hit through windows and areas that are set in any way."""

from buswindows.bounds import SPACE
from buswindows.errors import NoAddress, NoIndex
from buswindows.rooms import common, room_of, without
from buswindows.segments import are_rows, is_block_of, row_blocks, segment_paths
from buswindows.trees import device_path, is_strict, part_at, parts_in_order, parts_of
from buswindows.values import is_within


def are_settings(tree, value):
    """Return whether value is settings of the tree."""
    return are_rows(tree, value, _fits)


def _fits(part, key, block):
    """Return whether a value may be the block of an area of a device, or of a window of a bridge, in settings."""
    if block is None:
        return True
    if part[0] == "bridge":
        return is_block_of(key, block)
    kind, size = part[2][key]
    return is_block_of(kind, block) and block[1] == size


def follow(tree, settings, origin, address):
    """Return the steps of a request for an address that begins at a device, or at the top if origin is None."""
    path = () if origin is None else device_path(tree, origin)
    if not is_within(address, 0, SPACE - 1):
        raise NoAddress(address)
    rows = _rows_by_path(tree, settings)
    if origin is None:
        return tuple(_down(tree, rows, (), address))
    return tuple(_up(tree, rows, path, address))


def _rows_by_path(tree, settings):
    """Return the row of each device and bridge by its path."""
    return {path: row for (path, part), row in zip(parts_in_order(tree), settings)}


def _down(tree, rows, path, address):
    """Return the steps of a request that comes down to the segment with a path."""
    slots = _claiming(tree, rows, path, address)
    if len(slots) == 0:
        return [("lost", path)]
    return _answered(tree, rows, path, address, slots)


def _up(tree, rows, path, address):
    """Return the steps of a request that comes from the part at a path to the segment on which this stands."""
    segment = path[:-1]
    whole = part_at(tree, segment)
    if not is_strict(whole):
        slots = [slot for slot in _claiming(tree, rows, segment, address) if slot != path[-1]]
        if len(slots) > 0:
            return _answered(tree, rows, segment, address, slots)
    if segment == ():
        return [("top",)]
    return [("up", whole[1])] + _up(tree, rows, segment, address)


def _answered(tree, rows, path, address, slots):
    """Return the steps of a request on a segment where the parts in these slots, one or more, claim the address."""
    if len(slots) > 1:
        return [("clash", path, tuple(slots))]
    at = path + (slots[0],)
    part = part_at(tree, at)
    if part[0] == "bridge":
        return [("down", part[1])] + _down(tree, rows, at, address)
    having = [index for index, block in enumerate(row_blocks(rows[at])) if _has(block, address)]
    return [("hit", part[1], having[0])]


def _claiming(tree, rows, path, address):
    """Return the slots on a segment, in ascending order, whose parts claim an address."""
    return [slot for slot, part in enumerate(parts_of(part_at(tree, path)))
            if part is not None and any([_has(block, address) for block in row_blocks(rows[path + (slot,)])])]


def _has(block, address):
    """Return whether a block, or None, has an address."""
    return block is not None and block[0] <= address < block[0] + block[1]


def clashes(tree, settings):
    """Return (path, slot, other, room) for all segments and pairs of slots that claim addresses in common."""
    rows = _rows_by_path(tree, settings)
    found = []
    for path in sorted(segment_paths(tree)):
        claims = _claims(tree, rows, path)
        for slot in claims:
            for other in claims:
                room = common(claims[slot], claims[other])
                if slot < other and room != ():
                    found.append((path, slot, other, room))
    return tuple(found)


def _claims(tree, rows, path):
    """Return the room that each part on a segment claims, by its slot, in ascending order."""
    return {slot: _room(row_blocks(rows[path + (slot,)]))
            for slot, part in enumerate(parts_of(part_at(tree, path))) if part is not None}


def _room(blocks):
    """Return the room with the addresses of the blocks that are not None."""
    return room_of([block for block in blocks if block is not None])


def reached(tree, settings, name, index):
    """Return the room of all addresses for which a request from the top hits this area of a device."""
    path = device_path(tree, name)
    if not is_within(index, 0, len(part_at(tree, path)[2]) - 1):
        raise NoIndex(index)
    rows = _rows_by_path(tree, settings)
    blocks = row_blocks(rows[path])
    # An address in two areas of the device hits the first one of them.
    room = without(_room(blocks[index:index + 1]), _room(blocks[:index]))
    for depth in range(len(path)):
        claims = _claims(tree, rows, path[:depth])
        for slot in claims:
            if slot == path[depth]:
                room = common(room, claims[slot])
            else:
                room = without(room, claims[slot])
    return room
