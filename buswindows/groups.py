"""Groups: which devices may hit one another with some settings, and which are joined by that or by hiding."""

from buswindows.bounds import NEAR, SPACE
from buswindows.requests import are_settings, follow
from buswindows.segments import rows_with
from buswindows.trees import device_path, is_strict, part_at, parts_in_order
from buswindows.values import is_tuple_of, is_within


def may_hit(tree, one, other):
    """Return whether a device may hit another one."""
    return _reaches(tree, device_path(tree, one), device_path(tree, other))


def _reaches(tree, path, target):
    """Return whether the device at a path may hit the one at another path."""
    if path == target or part_at(tree, target)[2] == ():
        return False
    return not is_strict(part_at(tree, _shared(path, target)))


def _shared(path, target):
    """Return the path of the lowest segment on or below which two different devices stand."""
    depth = 0
    while path[depth] == target[depth]:
        depth += 1
    return path[:depth]


def hit_shown(tree, one, other):
    """Return settings and an address for which a request of a device hits another one, or None."""
    path = device_path(tree, one)
    target = device_path(tree, other)
    if not _reaches(tree, path, target):
        return None
    kind, size = part_at(tree, target)[2][0]
    block = (0 if kind == "near" else max(NEAR, size), size)
    blocks = {(target, 0): block}
    # Nobody else claims anything, so the request climbs to the shared segment and comes down from there.
    for depth in range(len(_shared(path, target)) + 1, len(target)):
        blocks[(target[:depth], kind)] = block
    return (rows_with(tree, blocks), block[0])


def hit_holds(tree, one, other, value):
    """Return whether value is settings and an address for which a request of a device hits another one."""
    device_path(tree, one)
    device_path(tree, other)
    if not is_tuple_of(value, 2):
        return False
    settings, address = value
    if not are_settings(tree, settings) or not is_within(address, 0, SPACE - 1):
        return False
    return follow(tree, settings, one, address)[-1][:2] == ("hit", other)


def groups(tree):
    """Return the groups in ascending order, each with its names in ascending order."""
    found = []
    seen = {}
    for name in sorted(_devices(tree)):
        if name not in seen:
            group = sorted(_chains(tree, name))
            found.append(tuple(group))
            for member in group:
                seen[member] = True
    return tuple(found)


def chain(tree, one, other):
    """Return a chain with the fewest rows from a device to another one, or None."""
    device_path(tree, one)
    device_path(tree, other)
    return _chains(tree, one).get(other)


def chain_holds(tree, one, other, value):
    """Return whether value is a chain from a device to another one."""
    device_path(tree, one)
    device_path(tree, other)
    if not isinstance(value, tuple):
        return False
    at = one
    for row in value:
        if not _is_row(tree, row) or row[1] != at:
            return False
        at = row[2]
    return at == other


def _devices(tree):
    """Return the path of each device by its name, in preorder."""
    return {part[1]: path for path, part in parts_in_order(tree) if part[0] == "device"}


def _chains(tree, one):
    """Return a chain with the fewest rows from a device to each one of its group, by the name of that one."""
    names = list(_devices(tree))
    chains = {one: ()}
    reached = [one]
    turn = 0
    while turn < len(reached):
        at = reached[turn]
        for name in names:
            row = _row(tree, at, name) if name not in chains else None
            if row is not None:
                chains[name] = chains[at] + (row,)
                reached.append(name)
        turn += 1
    return chains


def _row(tree, one, other):
    """Return the row of a chain for two different devices, None if they are not joined."""
    if _hit_joins(tree, one, other):
        return ("hit", one, other)
    for path, part in parts_in_order(tree):
        if _hides(tree, path, one, other):
            return ("hiding", one, other, part[1])
    return None


def _hit_joins(tree, one, other):
    """Return whether one of two devices may hit the other one."""
    return may_hit(tree, one, other) or may_hit(tree, other, one)


def _hides(tree, path, one, other):
    """Return whether at a path there is a bridge with the mark "hiding" anywhere below which both devices stand."""
    part = part_at(tree, path)
    if part[0] != "bridge" or "hiding" not in part[2]:
        return False
    depth = len(path)
    return device_path(tree, one)[:depth] == path and device_path(tree, other)[:depth] == path


def _is_row(tree, value):
    """Return whether value is a row of a chain."""
    if not isinstance(value, tuple) or len(value) not in (3, 4):
        return False
    devices = list(_devices(tree))
    one, other = value[1:3]
    if one not in devices or other not in devices or one == other:
        return False
    if len(value) == 3:
        return value[0] == "hit" and _hit_joins(tree, one, other)
    return value[0] == "hiding" and any([
        part[1] == value[3] and _hides(tree, path, one, other) for path, part in parts_in_order(tree)
    ])
