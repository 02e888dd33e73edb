"""Words: how numbers, blocks and paths are written and read."""

from buswindows.rooms import is_block

DIGITS = "0123456789"

# The start of a block has no more digits, nor has the exponent of a size, nor any other integer.
START_DIGITS = 15
EXPONENT_DIGITS = 2
MOST_DIGITS = 20


def integer_of(word, most):
    """Return the integer that a word of at most so many digits writes, None if it writes none."""
    if not 1 <= len(word) <= most or not all([digit in DIGITS for digit in word]):
        return None
    if len(word) > 1 and word[0] == "0":
        return None
    return int(word)


def block_text(block):
    """Return the text of a block."""
    return f"{block[0]}^{block[1].bit_length() - 1}"


def block_of(word):
    """Return the block whose text a word is, or None."""
    numbers = word.split("^")
    if len(numbers) != 2:
        return None
    start = integer_of(numbers[0], START_DIGITS)
    exponent = integer_of(numbers[1], EXPONENT_DIGITS)
    if start is None or exponent is None:
        return None
    block = (start, 1 << exponent)
    return block if is_block(block) else None


def path_text(path):
    """Return the text of a path."""
    return "." if path == () else ".".join([str(slot) for slot in path])


def path_of_word(word):
    """Return the path whose text a word is, or None."""
    if word == ".":
        return ()
    slots = [integer_of(slot, MOST_DIGITS) for slot in word.split(".")]
    return None if None in slots else tuple(slots)
