"""Rooms of few blocks that have all addresses of a given room."""

from buswindows.bounds import MAX_ROOM
from buswindows.errors import NoCount
from buswindows.rooms import addresses_in, room_of
from buswindows.values import is_within


class Cover:
    """How blocks next to one another are covered, with as few addresses as possible.

    whole is the least block around all of them. costs[n - 1] is the least number of
    addresses of n blocks that cover them, lefts[n - 1] how many of these n cover the
    blocks in the left half of whole. left and right are the covers of the blocks in
    the two halves, None if there is one block only.
    """

    def __init__(self, whole, left, right, costs, lefts):
        self.whole = whole
        self.left = left
        self.right = right
        self.costs = costs
        self.lefts = lefts


def widened(room, limit):
    """Return a room of at most limit blocks around a room, and its number of further addresses."""
    if not is_within(limit, 1, MAX_ROOM):
        raise NoCount(limit)
    if len(room) <= limit:
        return (room, 0)
    # The blocks of a cover may be halves of one block: room_of joins them.
    wide = room_of(_chosen(_cover(room, limit), limit))
    return (wide, addresses_in(wide) - addresses_in(room))


def _cover(blocks, limit):
    """Return the cover of one or more blocks of a room, by at most limit blocks."""
    whole = _least_around(blocks)
    if len(blocks) == 1:
        return Cover(whole, None, None, [whole[1]], [0])
    middle = whole[0] + whole[1] // 2
    left = _cover([block for block in blocks if block[0] < middle], limit)
    right = _cover([block for block in blocks if block[0] >= middle], limit)
    costs = [whole[1]]
    lefts = [0]
    for count in range(2, min(limit, len(left.costs) + len(right.costs)) + 1):
        cost, taken = _cheapest(left.costs, right.costs, count)
        costs.append(cost)
        lefts.append(taken)
    return Cover(whole, left, right, costs, lefts)


def _least_around(blocks):
    """Return the least block that has all addresses of these ascending blocks."""
    first = blocks[0][0]
    last = blocks[-1][0] + blocks[-1][1] - 1
    around = 1 << (first ^ last).bit_length()
    return (first - first % around, around)


def _cheapest(lefts, rights, count):
    """Return the least cost of count blocks in two halves, and how many are in the left one."""
    fewest = max(1, count - len(rights))
    most = min(count - 1, len(lefts))
    costs = [lefts[taken - 1] + rights[count - taken - 1] for taken in range(fewest, most + 1)]
    cost = min(costs)
    return cost, fewest + costs.index(cost)


def _chosen(cover, count):
    """Return count blocks, in ascending order, that cover with the fewest addresses."""
    if count == 1:
        return [cover.whole]
    taken = cover.lefts[count - 1]
    return _chosen(cover.left, taken) + _chosen(cover.right, count - taken)
