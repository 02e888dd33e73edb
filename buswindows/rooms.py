"""Blocks and rooms: sets of addresses as ascending tuples of their greatest blocks."""

from buswindows.bounds import LEAST, MAX_ROOM, SPACE
from buswindows.errors import NoIndex, NoStretch
from buswindows.values import is_within


def is_size(value):
    """Return whether value is a power of two from LEAST to SPACE."""
    return is_within(value, LEAST, SPACE) and (value & (value - 1)) == 0


def is_block(value):
    """Return whether value is a tuple of an address and a size that divides it."""
    if not isinstance(value, tuple) or len(value) != 2:
        return False
    start, size = value
    return is_size(size) and is_within(start, 0, SPACE - 1) and start % size == 0


def room_error(value):
    """Return None if value is a room of at most MAX_ROOM blocks, otherwise what is wrong first."""
    if not isinstance(value, tuple) or len(value) > MAX_ROOM:
        return (None, "room")
    for index in range(len(value)):
        word = _item_error(value, index)
        if word is not None:
            return (index, word)
    return None


def _item_error(blocks, index):
    """Return what is wrong with an item behind items that are not wrong, or None."""
    if not is_block(blocks[index]):
        return "block"
    if index == 0:
        return None
    before, size_before = blocks[index - 1]
    start, size = blocks[index]
    if start < before + size_before:
        return "order"
    if size == size_before and start == before + size and before % (2 * size) == 0:
        return "halves"
    return None


def room_of(blocks):
    """Return the room with all addresses of the blocks, in whatever order they are."""
    return _room(_spans(sorted(blocks)))


def stretch(low, high):
    """Return the room with the addresses from low to high - 1."""
    if not (_is_end(low) and _is_end(high) and low <= high):
        raise NoStretch(low, high)
    return _room([(low, high)])


def _is_end(value):
    """Return whether a stretch may begin or end at value."""
    return is_within(value, 0, SPACE) and value % LEAST == 0


def union(one, other):
    """Return the room with the addresses that are in one room or the other one."""
    return room_of((*one, *other))


def common(one, other):
    """Return the room with the addresses that are in both rooms."""
    return _room(_shared(_spans(one), _spans(other)))


def without(one, other):
    """Return the room with the addresses that are in one room but not in the other one."""
    return _room(_shared(_spans(one), _gaps(_spans(other))))


def addresses_in(room):
    """Return the number of addresses of a room."""
    return sum([size for start, size in room])


def address_at(room, index):
    """Return the address of a room with an index, in ascending order."""
    # Checked here and not only behind the loop: a value of another kind cannot be compared.
    if not is_within(index, 0, SPACE - 1):
        raise NoIndex(index)
    passed = 0
    for start, size in room:
        if index < passed + size:
            return start + index - passed
        passed = passed + size
    raise NoIndex(index)


def address_index(room, address):
    """Return how many addresses of a room are less than address."""
    return sum([min(size, address - start) for start, size in room if start < address])


def capacity(room, size):
    """Return the sum of the sizes of the blocks of a room that are at least size."""
    return sum([held for start, held in room if held >= size])


def block_around(room, address):
    """Return the block of a room that has an address, or None."""
    low = 0
    high = len(room)
    while low < high:
        middle = (low + high) // 2
        if room[middle][0] <= address:
            low = middle + 1
        else:
            high = middle
    # Now room[low] is the first block that begins behind the address.
    if low == 0 or address >= room[low - 1][0] + room[low - 1][1]:
        return None
    return room[low - 1]


# A span is a pair (low, high): the addresses from low to high - 1. The lists of
# spans below ascend, and between two of their spans there is an address of neither.


def _spans(blocks):
    """Return the spans of the blocks, which ascend but may have addresses in common."""
    spans = []
    for start, size in blocks:
        end = start + size
        if spans and start <= spans[-1][1]:
            low, high = spans[-1]
            spans[-1] = (low, max(high, end))
        else:
            spans.append((start, end))
    return spans


def _shared(ones, others):
    """Return the spans of the addresses that both have."""
    shared = []
    place = turn = 0
    while place < len(ones) and turn < len(others):
        low = max(ones[place][0], others[turn][0])
        high = min(ones[place][1], others[turn][1])
        if low < high:
            shared.append((low, high))
        # The span that ends first has nothing in common with the later ones.
        if ones[place][1] < others[turn][1]:
            place += 1
        else:
            turn += 1
    return shared


def _gaps(spans):
    """Return the spans of all addresses that the given ones do not have."""
    lows = [0] + [high for low, high in spans]
    highs = [low for low, high in spans] + [SPACE]
    return [(low, high) for low, high in zip(lows, highs) if low < high]


def _room(spans):
    """Return the room with the addresses of the spans."""
    return tuple([block for low, high in spans for block in _greatest(low, high)])


def _greatest(low, high):
    """Return the greatest blocks within a span, in ascending order."""
    blocks = []
    start = low
    while start < high:
        # A block is as great as its start allows, and as the rest of the span does.
        aligned = start & -start if start > 0 else SPACE
        fitting = 1 << ((high - start).bit_length() - 1)
        size = min(aligned, fitting)
        blocks.append((start, size))
        start = start + size
    return blocks
