"""Choices: which devices are kept, and which of the offered sizes they get."""

from buswindows.errors import NoAssignment
from buswindows.trees import only, with_devices
from buswindows.windows import refusal


def kept(tree, rooms, names):
    """Return the names that are kept, in their order of preference, and the refusals of the others."""
    staying = ()
    refused = []
    for name in names:
        why = refusal(only(tree, staying + (name,)), rooms)
        if why is None:
            staying = staying + (name,)
        else:
            refused.append((name, why))
    return (staying, tuple(refused))


def best_sizes(tree, rooms, offers):
    """Return the sizes that the offers get, the first offer choosing first."""
    # With smaller sizes there is an assignment whenever there is one with greater
    # ones, so the offers behind are tried with their least sizes alone.
    sizes = [min(allowed) for name, index, allowed in offers]
    why = refusal(with_sizes(tree, offers, sizes), rooms)
    if why is not None:
        raise NoAssignment(why)
    for place, (name, index, allowed) in enumerate(offers):
        sizes[place] = _first_possible(tree, rooms, offers, sizes, place)
    return tuple(sizes)


def _first_possible(tree, rooms, offers, sizes, place):
    """Return the first size of the offer at a place with which there is an assignment, as there is with one."""
    allowed = offers[place][2]
    turn = 0
    while refusal(with_sizes(tree, offers, sizes[:place] + [allowed[turn]] + sizes[place + 1:]), rooms) is not None:
        turn += 1
    return allowed[turn]


def with_sizes(tree, offers, sizes):
    """Return the tree in which the areas of the offers have these sizes."""
    chosen = {(name, index): size for (name, index, allowed), size in zip(offers, sizes)}
    return with_devices(tree, lambda device: _with_areas(device, chosen))


def _with_areas(device, chosen):
    """Return a device with the sizes that are chosen for its name and the indexes of its areas."""
    name = device[1]
    areas = [(kind, chosen.get((name, index), size)) for index, (kind, size) in enumerate(device[2])]
    return ("device", name, tuple(areas))
