"""The rows of an assignment that stay where they are while a hot machine is edited."""

from buswindows.errors import NoKind, NoPart, NoRoom, NoSize, NoSpace, NoWindow, Occupied
from buswindows.moves import make_room, moved
from buswindows.placings import first_placing
from buswindows.rooms import common, is_size, room_of, without
from buswindows.segments import KINDS, blocks_at, room_above, rows_with, segment_paths, standing_on
from buswindows.trees import part_at
from buswindows.windows import first_assignment


def rows_behind(state, whole, edit):
    """Return the rows behind an edit, where whole is the tree behind it."""
    name = edit[0]
    if name == "plug":
        return _plugged(state, whole, edit[1])
    if name == "unplug":
        return _unplugged(state, whole)
    if name == "make_way":
        return _with_way(state, edit[1], edit[2], edit[3])
    if name == "settle":
        return first_assignment(whole, state.spaces)
    if name == "reserve":
        _check_unoccupied(state, edit[1])
    return state.rows


def _plugged(state, whole, path):
    """Return the rows with blocks for what is new at a path and, if they had none, for windows above it."""
    blocks = blocks_at(state.whole, state.rows)
    for kind in KINDS:
        _place_new(state.spaces, whole, path, kind, blocks)
    return rows_with(whole, blocks)


def _place_new(spaces, whole, path, kind, blocks):
    """Give blocks to all that is new of a kind."""
    segment = path[:-1]
    while segment != () and blocks[(segment, kind)] is None:
        segment = segment[:-1]
    standing = standing_on(part_at(whole, segment), segment, kind)
    taken = [blocks[place] for place, size in standing if blocks.get(place) is not None]
    new = [(place, size) for place, size in standing if blocks.get(place) is None]
    try:
        _give(whole, without(room_above(spaces, segment, kind, blocks), room_of(taken)), new, kind, blocks)
    except NoRoom as error:
        raise NoSpace(kind, error.reason) from None


def _give(whole, room, new, kind, blocks):
    """Give blocks in a room to new pairs of a place and a size, and to all of the kind below the windows among them."""
    placing = first_placing(room, tuple([size for place, size in new]))
    for (place, size), block in zip(new, placing):
        blocks[place] = block
        path, key = place
        if key == kind:
            _give(whole, (block,), standing_on(part_at(whole, path), path, kind), kind, blocks)


def _unplugged(state, whole):
    """Return the rows with the blocks of all that is left, and the windows that are needed for that."""
    before = blocks_at(state.whole, state.rows)
    blocks = {}
    for path in segment_paths(whole):
        for kind in KINDS:
            for place, size in standing_on(part_at(whole, path), path, kind):
                blocks[place] = before[place]
    return rows_with(whole, blocks)


def _check_unoccupied(state, block):
    """Raise Occupied if a block has an address in common with one that stands on the top segment."""
    blocks = blocks_at(state.whole, state.rows)
    for kind in KINDS:
        for place, size in standing_on(state.whole, (), kind):
            if common((block,), (blocks[place],)) != ():
                raise Occupied(block)


def _with_way(state, path, kind, size):
    """Return the rows with a free block of a kind and size on the segment with a path."""
    whole = part_at(state.whole, path)
    if whole is None or whole[0] == "device":
        raise NoPart(path)
    if kind not in KINDS:
        raise NoKind(kind)
    if not is_size(size):
        raise NoSize(size)
    blocks = blocks_at(state.whole, state.rows)
    room = room_above(state.spaces, path, kind, blocks)
    if path != () and room == ():
        raise NoWindow(path)
    places = [place for place, least in standing_on(whole, path, kind)]
    standing = tuple([blocks[place] for place in places])
    for place, block in zip(places, _moved_for(room, standing, kind, size)):
        _move(state.whole, place, kind, block[0] - blocks[place][0], blocks)
    return rows_with(state.whole, blocks)


def _moved_for(room, standing, kind, size):
    """Return the standing blocks behind moves that make room for a size."""
    try:
        moves = make_room(room, standing, size)
    except NoRoom as error:
        raise NoSpace(kind, error.reason) from None
    return moved(room, standing, moves)


def _move(tree, place, kind, offset, blocks):
    """Move the block at a place and, if it is a window, everything in it."""
    start, size = blocks[place]
    blocks[place] = (start + offset, size)
    path, key = place
    if key == kind:
        for below, least in standing_on(part_at(tree, path), path, kind):
            _move(tree, below, kind, offset, blocks)
