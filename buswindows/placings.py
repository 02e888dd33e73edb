"""Placings: blocks of given sizes within a room, and the reasons why there are none."""

from buswindows.bounds import LEAST
from buswindows.errors import NoIndex, NoRoom
from buswindows.numbering import digits_of, number_of, number_of_rows, step
from buswindows.rooms import address_index, addresses_in, capacity, is_block, room_of, without
from buswindows.values import is_integer, is_tuple_of, is_within


def can_place(room, sizes):
    """Return whether the sizes have a placing in the room."""
    return reason(room, sizes) is None


def reason(room, sizes):
    """Return the reason of the greatest of the sizes that is the size of one, or None."""
    # If no size of these is the size of a reason, no other power of two is: as
    # much is wanted there as from the next greater size on, and no less is held.
    for size in reversed(sorted(set(sizes))):
        wanted = _wanted(sizes, size)
        held = capacity(room, size)
        if wanted > held:
            return (size, wanted, held)
    return None


def placing_holds(room, sizes, value):
    """Return whether value is a placing of the sizes in the room."""
    if not is_tuple_of(value, len(sizes)) or not all([is_block(item) for item in value]):
        return False
    return [size for start, size in value] == list(sizes) and stand_apart(room, value)


def stand_apart(room, blocks):
    """Return whether these blocks lie within the room, no two with an address in common."""
    together = room_of(blocks)
    return addresses_in(together) == addresses_in(blocks) and without(together, room) == ()


def reason_holds(room, sizes, value):
    """Return whether value is a reason why the sizes have no placing in the room."""
    if not is_tuple_of(value, 3) or not all([is_integer(item) for item in value]):
        return False
    size, wanted, held = value
    # It is not greater than all addresses unless some of the sizes are, for otherwise nothing is wanted.
    if size < LEAST or size & (size - 1) != 0:
        return False
    return wanted == _wanted(sizes, size) and held == capacity(room, size) and wanted > held


def _wanted(sizes, size):
    """Return the sum of the sizes that are at least this one."""
    return sum([item for item in sizes if item >= size])


def first_placing(room, sizes):
    """Return the placing in which each size gets, at its turn, the first free block."""
    why = reason(room, sizes)
    if why is not None:
        raise NoRoom(why)
    return _placing(room, sizes, [0] * len(sizes))


def count_placings(room, sizes):
    """Return the number of placings."""
    return number_of_rows(_counts(room, sizes))


def placing_at(room, sizes, index):
    """Return the placing with a number."""
    counts = _counts(room, sizes)
    if not is_within(index, 0, number_of_rows(counts) - 1):
        raise NoIndex(index)
    return _placing(room, sizes, digits_of(index, counts))


def placing_index(room, sizes, placing):
    """Return the number of a placing."""
    digits = []
    before = []
    for index in _turns(sizes):
        start, size = placing[index]
        fitting = tuple([block for block in room if block[1] >= size])
        taken = sum([other for at, other in before if at < start])
        digits.append((address_index(fitting, start) - taken) // size)
        before.append((start, size))
    return number_of(digits, _counts(room, sizes))


def each_placing(room, sizes, *, start=0):
    """Yield the placings from the number start on."""
    counts = _counts(room, sizes)
    many = number_of_rows(counts)
    if not is_within(start, 0, many):
        raise NoIndex(start)
    if start == many:
        return
    turns = _turns(sizes)
    digits = digits_of(start, counts)
    blocks = [None] * len(sizes)
    # What was free at each turn is kept, since most steps change the last turns only.
    free = [list(room)]
    changed = 0
    while changed is not None:
        del free[changed + 1:]
        for place in range(changed, len(turns)):
            index = turns[place]
            blocks[index], rest = _taken(free[place], sizes[index], digits[place])
            free.append(rest)
        yield tuple(blocks)
        changed = step(digits, counts)


def _turns(sizes):
    """Return the indexes of the sizes in the order of their turns."""
    return [index for negative, index in sorted([(-size, index) for index, size in enumerate(sizes)])]


def _counts(room, sizes):
    """Return the number of free blocks at each turn; one of them is 0 if there is no placing."""
    counts = []
    taken = 0
    for index in _turns(sizes):
        size = sizes[index]
        # All blocks of the turns before lie within blocks of the room that are at least this size.
        counts.append((capacity(room, size) - taken) // size)
        taken = taken + size
    return counts


def _placing(room, sizes, digits):
    """Return the placing in which each turn takes the free block with the number that is its digit."""
    free = list(room)
    blocks = [None] * len(sizes)
    for index, digit in zip(_turns(sizes), digits):
        blocks[index], free = _taken(free, sizes[index], digit)
    return tuple(blocks)


def _taken(free, size, number):
    """Return the block of a size with a number within the free blocks, and the free blocks without it."""
    place = 0
    rest = number
    # A block that is less than the size counts 0 here.
    while rest >= free[place][1] // size:
        rest = rest - free[place][1] // size
        place += 1
    block = (free[place][0] + rest * size, size)
    left = list(without((free[place],), (block,)))
    return block, free[:place] + left + free[place + 1:]
