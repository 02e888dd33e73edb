"""Orders: which messages may not pass others, so that who sees a flag set finds the data there."""

from buswindows.trees import device_path, parts_in_order


def forbidden(tree, producer, consumer, data, flag):
    """Return the pairs of kinds of which each by itself lets the consumer see the flag set but not the data."""
    paths = [_path(tree, name) for name in (producer, consumer, data, flag)]
    # The data is late only where it waits in a link that the flag does not cross, and
    # is passed there by what the consumer does behind the flag: by the answer that
    # tells it, or by the read of the data.
    passed = [_passed_by(path, paths) for path, part in parts_in_order(tree)]
    return tuple([(kind, "write") for kind in ("answer", "read") if kind in passed])


def _path(tree, name):
    """Return the path of the device with a name, () for None: the top."""
    return () if name is None else device_path(tree, name)


def _passed_by(path, paths):
    """Return the kind of what passes the data in the link above the part at a path, or None.

    paths has those of the producer, the consumer, the data and the flag.
    """
    producer, consumer, data, flag = [place[:len(path)] == path for place in paths]
    if data == producer or flag != producer:
        return None
    return "read" if consumer == producer else "answer"
