"""Texts of rooms and trees."""

from buswindows.errors import BadText, BadTree
from buswindows.reading import read_tree
from buswindows.rooms import room_error
from buswindows.trees import tree_error
from buswindows.words import block_of, block_text


def room_text(room):
    """Return the text of a room."""
    return "-" if room == () else " ".join([block_text(block) for block in room])


def tree_text(tree):
    """Return the text of a tree."""
    return _marks_text(tree[1]) + _parts_text(tree[2])


def _marks_text(marks):
    """Return the text of the marks of a tree or bridge."""
    return "".join(["+" + mark[0] for mark in marks])


def _parts_text(parts):
    """Return the text of the parts of a tree or bridge."""
    return "(" + ",".join([_part_text(part) for part in parts]) + ")"


def _part_text(part):
    """Return the text of a part."""
    if part is None:
        return "-"
    if part[0] == "bridge":
        return part[1] + _marks_text(part[2]) + _parts_text(part[3])
    areas = [f"{kind[0]}{size.bit_length() - 1}" for kind, size in part[2]]
    return part[1] + "[" + ",".join(areas) + "]"


def parse_room(text):
    """Return the room whose text this is."""
    if not isinstance(text, str):
        raise BadText(None)
    if text == "-":
        return ()
    blocks = []
    for index, word in enumerate(text.split(" ")):
        blocks.append(block_of(word))
        if room_error(tuple(blocks)) is not None:
            raise BadText(index)
    return tuple(blocks)


def parse_tree(text):
    """Return the tree whose text this is."""
    if not isinstance(text, str):
        raise BadText(None)
    tree = read_tree(text)
    error = tree_error(tree)
    if error is not None:
        raise BadTree(error)
    return tree
