"""Plain and slow ways to results about placings, trees and requests, by the words of the document."""

import itertools
import random

FAR = 2 ** 32


def blocks_within(room, size):
    """All blocks of a size within a room, in ascending order."""
    return [(at, size) for start, held in room for at in range(start, start + held, size) if size <= held]


def apart(one, other):
    return one[0] + one[1] <= other[0] or other[0] + other[1] <= one[0]


def turns(sizes):
    """The indexes of the sizes in the order of their turns."""
    order = []
    for size in sorted(set(sizes), reverse=True):
        order += [index for index in range(len(sizes)) if sizes[index] == size]
    return order


def all_placings(room, sizes):
    """All placings, in the order of the tuples of their starts in the order of the turns."""
    found = []

    def place(order, chosen):
        if not order:
            found.append(tuple(chosen[index] for index in range(len(sizes))))
            return
        for block in blocks_within(room, sizes[order[0]]):
            if all(apart(block, other) for other in chosen.values()):
                place(order[1:], {**chosen, order[0]: block})

    place(turns(sizes), {})
    return found


def has_placing(room, sizes):
    """Whether there is a placing, by trying all blocks for the sizes in the order of their turns."""

    def place(order, chosen):
        if not order:
            return True
        return any(place(order[1:], chosen + [block]) for block in blocks_within(room, sizes[order[0]])
                   if all(apart(block, other) for other in chosen))

    return place(turns(sizes), [])


def device(name, *areas):
    return ("device", name, areas)


def bridge(name, *parts, marks=()):
    return ("bridge", name, marks, parts)


def tree(*parts, marks=()):
    return ("tree", marks, parts)


def walked(whole, path=()):
    """The pairs of path and part of a tree, in preorder."""
    for slot, part in enumerate(whole[-1]):
        if part is not None:
            yield path + (slot,), part
            if part[0] == "bridge":
                yield from walked(part, path + (slot,))


def some_tree(seed, sizes=(16, 32, 4096), kinds=("far", "near"), bridges=4, devices=6, slots=4):
    """A tree out of a random source with this seed."""
    source = random.Random(seed)
    letters = [first + second for first in "abcdefgh" for second in "stuvwxyz"]
    source.shuffle(letters)
    left = {"bridge": bridges, "device": devices}

    def parts(depth):
        made = []
        for _ in range(source.randrange(1, slots + 1)):
            word = source.choice(["device", "device", "bridge", None])
            if word is None or left[word] == 0 or (word == "bridge" and depth == 6):
                made.append(None)
                continue
            left[word] -= 1
            if word == "device":
                made.append(device(letters.pop(), *[
                    (source.choice(kinds), source.choice(sizes)) for _ in range(source.randrange(0, 4))]))
            else:
                marks = tuple(mark for mark in ("hiding", "strict") if source.random() < 0.4)
                made.append(bridge(letters.pop(), *parts(depth + 1), marks=marks))
        return tuple(made)

    return tree(*parts(0), marks=source.choice([(), ("strict",)]))


def least_size(part, kind):
    """The least size of the window of a bridge, 0 if it needs none."""
    total = sum(standing(part, kind))
    if total == 0:
        return 0
    size = 4096
    while size < total:
        size *= 2
    return size


def standing(whole, kind):
    """The sizes of a kind on the segment of a tree or bridge, part by part."""
    sizes = []
    for part in whole[-1]:
        if part is not None and part[0] == "device":
            sizes += [size for other, size in part[2] if other == kind]
        elif part is not None and least_size(part, kind):
            sizes.append(least_size(part, kind))
    return sizes


def shared_out(whole, kind, blocks, found):
    """Give the blocks of a kind on a segment to the parts that stand there; found has a list of pairs by name."""
    rest = list(blocks)
    for part in whole[-1]:
        if part is not None and part[0] == "device":
            for index, (other, _) in enumerate(part[2]):
                if other == kind:
                    found.setdefault(part[1], {})[index] = rest.pop(0)
        elif part is not None and least_size(part, kind):
            found.setdefault(part[1], {})[kind] = rest.pop(0)
    assert not rest


def rows_by_name(whole, found):
    """The rows of an assignment in which the parts have these blocks by index or kind."""
    rows = []
    for _, part in walked(whole):
        blocks = found.get(part[1], {})
        if part[0] == "device":
            rows.append((part[1], tuple(blocks[index] for index in range(len(part[2])))))
        else:
            rows.append((part[1], blocks.get("far"), blocks.get("near")))
    return tuple(rows)


def all_assignments(whole, rooms):
    """All assignments with least windows, in the order of point 10."""
    segments = [whole] + [part for _, part in walked(whole) if part[0] == "bridge"]
    order = [(segment, kind) for segment in segments for kind in ("far", "near")]
    found = []

    def assign(at, blocks):
        if at == len(order):
            found.append(rows_by_name(whole, blocks))
            return
        segment, kind = order[at]
        if segment is whole:
            room = rooms[("far", "near").index(kind)]
        else:
            window = blocks.get(segment[1], {}).get(kind)
            room = (window,) if window else ()
        for placing in all_placings(room, tuple(standing(segment, kind))):
            more = {name: dict(held) for name, held in blocks.items()}
            shared_out(segment, kind, placing, more)
            assign(at + 1, more)

    assign(0, {})
    return found


def is_assignment(whole, rooms, rows):
    """Whether rows of the right form, with blocks wherever there must be some, are an assignment."""
    by_name = {row[0]: row for row in rows}
    segments = [(whole, rooms)]
    for _, part in walked(whole):
        if part[0] == "bridge":
            segments.append((part, [() if block is None else (block,) for block in by_name[part[1]][1:]]))
    for segment, held in segments:
        for at, kind in enumerate(("far", "near")):
            blocks = []
            for part in segment[-1]:
                if part is not None and part[0] == "device":
                    row = by_name[part[1]]
                    blocks += [block for block, (other, _) in zip(row[1], part[2]) if other == kind]
                elif part is not None and by_name[part[1]][at + 1] is not None:
                    blocks.append(by_name[part[1]][at + 1])
            for block in blocks:
                if not any(start <= block[0] and sum(block) <= start + size for start, size in held[at]):
                    return False
            if not all(apart(*pair) for pair in itertools.combinations(blocks, 2)):
                return False
    return True


def some_settings(whole, seed, places=8):
    """Settings of a tree out of a random source with this seed: few places, so that much overlaps."""
    source = random.Random(seed)

    def block(kind, size):
        low = FAR if kind == "far" else 0
        return None if source.random() < 0.2 else (low + source.randrange(places) * max(size, 16), size)

    rows = []
    for _, part in walked(whole):
        if part[0] == "device":
            rows.append((part[1], tuple(block(kind, size) for kind, size in part[2])))
        else:
            rows.append((part[1], *[block(kind, source.choice((16, 64, 256, 4096))) for kind in ("far", "near")]))
    return tuple(rows)


def having(row, address):
    """The indexes of the blocks of a row that have an address."""
    blocks = row[1] if len(row) == 2 else row[1:]
    return [at for at, block in enumerate(blocks) if block and block[0] <= address < sum(block)]


def way(whole, rows, origin, address):
    """The steps of a request, told from where it stands to where it goes."""
    parts = dict(walked(whole))
    claims = {path: having(row, address) for (path, _), row in zip(walked(whole), rows)}
    steps = []
    if origin is None:
        at, came = (), None
    else:
        path = [path for path, part in parts.items() if part[1] == origin][0]
        at, came = path[:-1], path[-1]
    climbing = origin is not None
    while True:
        marks = parts[at][2] if at else whole[1]
        asked = [] if climbing and "strict" in marks else [
            path[-1] for path in sorted(parts) if path[:-1] == at and path[-1] != came and claims[path]]
        if len(asked) > 1:
            return tuple(steps) + (("clash", at, tuple(asked)),)
        if len(asked) == 1:
            path = at + (asked[0],)
            if parts[path][0] == "device":
                return tuple(steps) + (("hit", parts[path][1], claims[path][0]),)
            steps.append(("down", parts[path][1]))
            at, came, climbing = path, None, False
        elif not climbing:
            return tuple(steps) + (("lost", at),)
        elif at == ():
            return tuple(steps) + (("top",),)
        else:
            steps.append(("up", parts[at][1]))
            at, came = at[:-1], at[-1]


def edges(rows):
    """Addresses at both ends of all blocks of some rows, and beside them."""
    found = {0, 5, FAR - 1, FAR, 2 ** 48 - 1}
    for row in rows:
        for block in row[1] if len(row) == 2 else row[1:]:
            if block:
                found |= {block[0] - 1, block[0], block[0] + 7, sum(block) - 1, sum(block)}
    return sorted(address for address in found if 0 <= address < 2 ** 48)
