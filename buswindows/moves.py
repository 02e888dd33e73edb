"""Moves: how standing blocks make room for a further one, one at a time."""

from itertools import combinations

from buswindows.bounds import LEAST, SMALL
from buswindows.errors import BadMove, BadMoves, NoRoom, TooMany
from buswindows.placings import can_place, reason
from buswindows.rooms import block_around, capacity, is_block, room_of, without
from buswindows.values import is_integer, is_tuple_of, is_within


def moved(room, standing, value):
    """Return the standing blocks behind all moves of a tuple."""
    if not isinstance(value, tuple):
        raise BadMoves()
    blocks = list(standing)
    for place, item in enumerate(value):
        if not _is_move(room, blocks, item):
            raise BadMove(place)
        index, start = item
        blocks[index] = (start, blocks[index][1])
    return tuple(blocks)


def _is_move(room, blocks, value):
    """Return whether value is a move of one of the standing blocks."""
    if not is_tuple_of(value, 2) or not is_within(value[0], 0, len(blocks) - 1):
        return False
    index, start = value
    size = blocks[index][1]
    if not is_block((start, size)):
        return False
    around = block_around(room, start)
    if around is None or around[1] < size:
        return False
    # The block's own place has addresses in common with a standing block, too.
    return all([start + size <= other or other + held <= start for other, held in blocks])


def make_room(room, standing, size):
    """Return moves behind which there is a free block of a size."""
    _check_room(room, standing, size)
    blocks = list(standing)
    moves = []
    level = LEAST
    while level < size and not _has_free(room, blocks, size):
        steps = _moves_of_level(room, blocks, level)
        for index, start in steps:
            blocks[index] = (start, blocks[index][1])
        moves.extend(steps)
        level = 2 * level
    return tuple(moves)


def _check_room(room, standing, size):
    """Raise NoRoom if the standing blocks and a further one of a size cannot stand together."""
    why = reason(room, tuple([held for start, held in standing] + [size]))
    if why is not None:
        raise NoRoom(why)


def _has_free(room, standing, size):
    """Return whether there is a free block of a size."""
    return capacity(without(room, room_of(standing)), size) > 0


# How make_room works: a cell of a level is a block of this size within a greater
# block of the room; a spare is a block of the room of just this size in which
# nothing stands. Level by level, from the least size on, what stands in cells and
# is no greater than they are goes into the spares, as much as there is; then of
# each two cells whose other halves are free the one is emptied into the free half
# beside the other one. Afterwards there is at most one free cell beside one that
# is not free, and if a spare is left, nothing of the level or less stands in
# greater blocks of the room. Greater levels leave this so. Therefore, if no block
# of the size becomes free, let p be twice the greatest level with a spare left, or
# LEAST: in the blocks of the room from p on nothing less than p stands, and less
# than the size is free, at most one cell of each level. So p is a reason against
# the size. Nothing moves twice on a level, or on a level less than its own size.


def _moves_of_level(room, blocks, level):
    """Return the moves of a level, as pairs of an index and a start."""
    contents = _contents(room, blocks, level)
    alone = [cell for cell in contents if cell ^ level not in contents]
    paired = [cell for cell in contents if cell ^ level in contents]
    # A cell beside a free one goes first: with it a greater block becomes free.
    filled = alone + paired
    spares = _spares(room, blocks, level)
    pairs = list(zip(filled, spares))
    left = filled[len(spares):]
    single = [cell for cell in left if cell ^ level not in left]
    pairs.extend([(cell, beside ^ level) for beside, cell in zip(single[::2], single[1::2])])
    return [(index, blocks[index][0] - cell + target) for cell, target in pairs for index in contents[cell]]


def _contents(room, blocks, level):
    """Return the indexes of the blocks that stand in each cell of a level and are no greater than it, by its start."""
    contents = {}
    for start, index in sorted([(start, index) for index, (start, size) in enumerate(blocks) if size <= level]):
        if block_around(room, start)[1] > level:
            contents.setdefault(start - start % level, []).append(index)
    return contents


def _spares(room, blocks, level):
    """Return the starts of the blocks of the room of just this size in which nothing stands."""
    taken = {block_around(room, start): True for start, size in blocks}
    return [block[0] for block in room if block[1] == level and block not in taken]


def makes_room_holds(room, standing, size, value):
    """Return whether value is a tuple of moves behind which there is a free block of a size."""
    try:
        blocks = moved(room, standing, value)
    except (BadMoves, BadMove):
        return False
    return _has_free(room, blocks, size)


def can_stay(room, standing, size, value):
    """Return whether value is the ascending tuple of the indexes of blocks that can stay."""
    if not isinstance(value, tuple) or not all([is_integer(item) for item in value]):
        return False
    if not all([one < other for one, other in zip((-1,) + value, value + (len(standing),))]):
        return False
    return _stay(room, standing, size, value)


def _stay(room, standing, size, stay):
    """Return whether the blocks with these indexes can stay."""
    kept = room_of([standing[index] for index in stay])
    others = [block[1] for index, block in enumerate(standing) if index not in stay]
    return can_place(without(room, kept), tuple(others + [size]))


def staying(room, standing, size):
    """Return the indexes of as many blocks as can stay, of several such tuples the least one."""
    if len(standing) > SMALL:
        raise TooMany(SMALL)
    _check_room(room, standing, size)
    within = _useful(room, standing)
    # The last tuple is (): all of them together have room, or there would be a reason.
    for many in range(len(standing), -1, -1):
        for stay in combinations(range(len(standing)), many):
            if _stay(within, standing, size, stay):
                return stay


def _useful(room, standing):
    """Return the room without blocks that no placing of these sizes and one more needs."""
    taken = {block_around(room, start): True for start, size in standing}
    # Only so many blocks of the others can be in use, and the greatest ones do for all.
    others = sorted([(-block[1], block[0]) for block in room if block not in taken])
    greatest = [(start, -negative) for negative, start in others[:len(standing) + 1]]
    return tuple(sorted(list(taken) + greatest))
