"""Values, rooms and slow but plain ways to find results, for the tests."""

import random

from buswindows.bounds import LEAST, SPACE

HUGE = 10 ** 5000

# Of all kinds, and near to sizes, blocks, rooms and indexes without being one.
OTHERS = [
    None, True, False, "", "room", "16", "(0, 16)", "a" * 2000, (), [], {}, (None,), (True,), [16], [0, 16],
    [(0, 16)], ([0, 16],), {"start": 0, "size": 16}, {"a": {"b": [(), None]}}, ((((0, 16),),),), (0, 16, 16), (0,),
    ("0", 16), (0, "16"), (None, 16), (0, None), ((0, 16), None), ((0, 16), [16, 16]), -1, -16, 10 ** 40 - 1,
    -(10 ** 40 - 1), 1.0, 16.0, b"16",
]


def grains(room):
    """The set of the numbers of the least blocks within a room."""
    return {(start + at) // LEAST for start, size in room for at in range(0, size, LEAST)}


def room_by_joining(numbers):
    """The room with these least blocks: halves are joined as long as there are any."""
    blocks = {(number * LEAST, LEAST) for number in numbers}
    while True:
        for start, size in sorted(blocks):
            if start % (2 * size) == 0 and (start + size, size) in blocks:
                blocks -= {(start, size), (start + size, size)}
                blocks.add((start, 2 * size))
                break
        else:
            return tuple(sorted(blocks))


def small_rooms(count, places, seed):
    """Rooms of some of the first least blocks, few or many of them."""
    source = random.Random(seed)
    rooms = []
    for _ in range(count):
        share = source.random()
        rooms.append(room_by_joining([at for at in range(places) if source.random() < share]))
    return rooms


def blocks_anywhere(count, seed):
    """Blocks of all sizes, some twice, some within others."""
    source = random.Random(seed)
    blocks = []
    for _ in range(count):
        size = LEAST << source.randrange(0, 30)
        blocks.append((source.randrange(SPACE // size) * size, size))
    return blocks + blocks[: count // 5] + [(start, size // 2) for start, size in blocks[: count // 5] if size > LEAST]


def plain_room_error(value):
    """What room_error tells, by the words of the document and block by block."""
    if type(value) is not tuple or len(value) > 128:
        return (None, "room")
    sizes = [2 ** k for k in range(4, 49)]
    for index, block in enumerate(value):
        if type(block) is not tuple or [type(item) for item in block] != [int, int]:
            return (index, "block")
        start, size = block
        if size not in sizes or start % size or not 0 <= start < 2 ** 48:
            return (index, "block")
        if index and start < sum(value[index - 1]):
            return (index, "order")
        if index and any(
            [value[index - 1], block] == [(parent, size), (parent + size, size)] and parent % (2 * size) == 0
            for parent in [start - size]
        ):
            return (index, "halves")
    return None
