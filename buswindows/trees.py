"""Trees of devices and bridges."""

from buswindows.bounds import (
    MAX_AREAS, MAX_BRIDGES, MAX_DEPTH, MAX_DEVICES, MAX_FAR, MAX_NEAR, MAX_PARTS,
)
from buswindows.errors import BadTree, NoName, NoPart
from buswindows.rooms import is_size
from buswindows.values import is_tuple_of, is_within

LETTERS = "abcdefghijklmnopqrstuvwxyz"
LONGEST_NAME = 8
TREE_MARKS = ((), ("strict",))
BRIDGE_MARKS = ((), ("hiding",), ("hiding", "strict"), ("strict",))


def tree_error(value):
    """Return None if value is a tree, otherwise the path and the word of what is wrong first."""
    if not _begins(value, "tree", 3):
        return ((), "tree")
    if value[1] not in TREE_MARKS:
        return ((), "marks")
    if not _are_parts(value[2]):
        return ((), "parts")
    seen = {}
    error = _parts_error(value[2], (), seen)
    if error is not None:
        return error
    words = list(seen.values())
    if words.count("device") > MAX_DEVICES:
        return ((), "devices")
    if words.count("bridge") > MAX_BRIDGES:
        return ((), "bridges")
    return None


def _parts_error(parts, path, seen):
    """Return what is wrong first with the parts on a segment and all below them, or None.

    seen has the word "device" or "bridge" for each name before; those of these parts are put in.
    """
    for slot, part in enumerate(parts):
        if part is not None:
            error = _part_error(part, path + (slot,), seen)
            if error is not None:
                return error
    return None


def _part_error(part, path, seen):
    """Return what is wrong first with the part at a path and all below it, or None."""
    word = _head_error(part, path, seen)
    if word is None:
        word = _bridge_error(part) if part[0] == "bridge" else _device_error(part)
    if word is not None:
        return (path, word)
    seen[part[1]] = part[0]
    return _parts_error(parts_of(part), path, seen)


def _head_error(part, path, seen):
    """Return the word for what is wrong with the form, the depth or the name of a part, or None."""
    is_bridge = _begins(part, "bridge", 4)
    if not is_bridge and not _begins(part, "device", 3):
        return "part"
    # The path of a bridge has one slot more than there are bridges above it.
    if is_bridge and len(path) > MAX_DEPTH:
        return "depth"
    if not _is_name(part[1]):
        return "name"
    if part[1] in seen:
        return "twice"
    return None


def _device_error(device):
    """Return the word for what is wrong with the areas of a device, or None."""
    areas = device[2]
    if not isinstance(areas, tuple) or len(areas) > MAX_AREAS:
        return "areas"
    if not all([_is_area(area) for area in areas]):
        return "area"
    return None


def _bridge_error(bridge):
    """Return the word for what is wrong with the marks of a bridge or the form of its parts, or None."""
    if bridge[2] not in BRIDGE_MARKS:
        return "marks"
    if not _are_parts(bridge[3]):
        return "parts"
    return None


def _begins(value, word, many):
    """Return whether value is a tuple of so many items that begins with a word."""
    return is_tuple_of(value, many) and value[0] == word


def _are_parts(value):
    """Return whether value has the form of the parts of a tree or bridge."""
    return isinstance(value, tuple) and len(value) <= MAX_PARTS


def _is_name(value):
    """Return whether value may be the name of a device or bridge."""
    if not isinstance(value, str) or not 1 <= len(value) <= LONGEST_NAME:
        return False
    return all([letter in LETTERS for letter in value])


def _is_area(value):
    """Return whether value is an area."""
    if not is_tuple_of(value, 2) or not is_size(value[1]):
        return False
    kind, size = value
    return (kind == "far" and size <= MAX_FAR) or (kind == "near" and size <= MAX_NEAR)


def parts_of(part):
    """Return the parts that stand on the segment of a tree or bridge, () for other parts."""
    if part is None or part[0] == "device":
        return ()
    return part[-1]


def is_strict(whole):
    """Return whether the segment of a tree or bridge is strict."""
    # The marks are the last but one of both.
    return "strict" in whole[-2]


def parts_in_order(tree):
    """Return the pairs of path and part of all devices and bridges, in preorder."""
    return _parts_below(tree, ())


def _parts_below(whole, path):
    """Return the pairs of path and part below a tree or part with a path."""
    found = []
    for slot, part in enumerate(parts_of(whole)):
        if part is not None:
            at = path + (slot,)
            found.append((at, part))
            found.extend(_parts_below(part, at))
    return found


def part_at(tree, path):
    """Return the part at a path, the tree itself for ()."""
    if not isinstance(path, tuple):
        raise NoPart(path)
    part = tree
    for slot in path:
        parts = parts_of(part)
        if not is_within(slot, 0, len(parts) - 1):
            raise NoPart(path)
        part = parts[slot]
    return part


def path_of(tree, name):
    """Return the path of the device or bridge with a name."""
    for path, part in parts_in_order(tree):
        if part[1] == name:
            return path
    raise NoName(name)


def device_path(tree, name):
    """Return the path of the device with a name."""
    path = path_of(tree, name)
    if part_at(tree, path)[0] != "device":
        raise NoName(name)
    return path


def names_of(tree):
    """Return the names of all devices and bridges in preorder."""
    return tuple([part[1] for path, part in parts_in_order(tree)])


def with_part(tree, path, part):
    """Return the tree with this part in the slot at a path."""
    part_at(tree, path)
    if path == ():
        raise NoPart(path)
    changed = _put(tree, path, part)
    error = tree_error(changed)
    if error is not None:
        raise BadTree(error)
    return changed


def _put(whole, path, part):
    """Return a tree or bridge with a part at a path that begins on its segment."""
    if path == ():
        return part
    parts = whole[-1]
    slot = path[0]
    below = _put(parts[slot], path[1:], part)
    return whole[:-1] + (parts[:slot] + (below,) + parts[slot + 1:],)


def only(tree, names):
    """Return the tree with the devices of these names alone; all bridges stay."""
    return with_devices(tree, lambda device: device if device[1] in names else None)


def with_devices(whole, change):
    """Return a tree or bridge in which each device is replaced by what change returns for it."""
    return whole[:-1] + (tuple([_changed(part, change) for part in whole[-1]]),)


def _changed(part, change):
    """Return a part in which each device is replaced."""
    if part is None:
        return None
    return change(part) if part[0] == "device" else with_devices(part, change)
