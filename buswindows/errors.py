"""The errors that the package raises, each with its fields as attributes."""

# The messages are fixed texts: Python refuses to write out integers of
# thousands of digits, and a field may be one.


class BusError(ValueError):
    """The base of all errors but those of a failed look-up."""


class NoStretch(BusError):
    """There is no stretch of addresses between these ends."""

    def __init__(self, low, high):
        super().__init__("no such stretch of addresses")
        self.low = low
        self.high = high


class NoCount(BusError):
    """The value is no number of blocks."""

    def __init__(self, value):
        super().__init__("no such number of blocks")
        self.value = value


class NoRoom(BusError):
    """The sizes have no placing in the room."""

    def __init__(self, reason):
        super().__init__("the sizes have no placing")
        self.reason = reason


class BadTree(BusError):
    """The value is no tree."""

    def __init__(self, error):
        super().__init__("this is no tree")
        self.error = error


class NoAssignment(BusError):
    """The tree has no assignment in the rooms."""

    def __init__(self, refusal):
        super().__init__("the tree has no assignment")
        self.refusal = refusal


class BadMoves(BusError):
    """The value is no tuple of moves."""

    def __init__(self):
        super().__init__("this is no tuple of moves")


class BadMove(BusError):
    """The item with this index is no move at its turn."""

    def __init__(self, index):
        super().__init__("an item is no move")
        self.index = index


class TooMany(BusError):
    """There are more blocks than this limit."""

    def __init__(self, limit):
        super().__init__("there are too many blocks")
        self.limit = limit


class NoWay(BusError):
    """The table tells no channel."""

    def __init__(self):
        super().__init__("there is no way to the goal")


class Full(BusError):
    """The channel or kind has no free place."""

    def __init__(self, value):
        super().__init__("there is no free place")
        self.value = value


class Nothing(BusError):
    """The channel has no message."""

    def __init__(self):
        super().__init__("there is no message")


class BadRules(BusError):
    """The value is no rules of a link."""

    def __init__(self):
        super().__init__("these are no rules")


class Held(BusError):
    """The message may not pass one ahead of it."""

    def __init__(self, value):
        super().__init__("the message is held")
        self.value = value


class BadRooms(BusError):
    """The value is no pair of far and near rooms."""

    def __init__(self):
        super().__init__("these are no rooms")


class Taken(BusError):
    """The slot is not empty."""

    def __init__(self, path):
        super().__init__("the slot is not empty")
        self.path = path


class Empty(BusError):
    """The slot is empty already."""

    def __init__(self, path):
        super().__init__("the slot is empty")
        self.path = path


class BadMarks(BusError):
    """The value is no marks of a bridge."""

    def __init__(self, value):
        super().__init__("these are no marks")
        self.value = value


class NoBlock(BusError):
    """The value is no block that can be meant."""

    def __init__(self, value):
        super().__init__("there is no such block")
        self.value = value


class NoSpace(BusError):
    """There is no space for sizes of this kind."""

    def __init__(self, kind, reason):
        super().__init__("there is no space")
        self.kind = kind
        self.reason = reason


class Occupied(BusError):
    """The block is in use."""

    def __init__(self, block):
        super().__init__("the block is in use")
        self.block = block


class NoWindow(BusError):
    """The bridge has no window of the kind."""

    def __init__(self, path):
        super().__init__("there is no such window")
        self.path = path


class TooManyEdits(BusError):
    """As many edits as possible are in effect."""

    def __init__(self):
        super().__init__("there are too many edits")


class NothingToUndo(BusError):
    """No edit is in effect."""

    def __init__(self):
        super().__init__("there is nothing to undo")


class Busy(BusError):
    """The machine is within a run."""

    def __init__(self):
        super().__init__("the machine is busy")


class BadEdits(BusError):
    """The value is no list or tuple of edits, or has too many."""

    def __init__(self):
        super().__init__("these are no edits")


class BadEdit(BusError):
    """The item with this index is no edit."""

    def __init__(self, index):
        super().__init__("an item is no edit")
        self.index = index


class Rejected(BusError):
    """The edit with this index is rejected."""

    def __init__(self, index):
        super().__init__("an edit is rejected")
        self.index = index


class BadText(BusError):
    """The text is wrong at this place."""

    def __init__(self, index):
        super().__init__("the text is wrong")
        self.index = index


class NoIndex(LookupError):
    """The value is no index that can be meant."""

    def __init__(self, value):
        super().__init__("there is no such index")
        self.value = value


class NoPart(LookupError):
    """The value is no part that can be meant."""

    def __init__(self, value):
        super().__init__("there is no such part")
        self.value = value


class NoName(LookupError):
    """The value is no name that can be meant."""

    def __init__(self, value):
        super().__init__("there is no such name")
        self.value = value


class NoAddress(LookupError):
    """The value is no address that can be meant."""

    def __init__(self, value):
        super().__init__("there is no such address")
        self.value = value


class NoStation(LookupError):
    """The value is no station that can be meant."""

    def __init__(self, value):
        super().__init__("there is no such station")
        self.value = value


class NoChannel(LookupError):
    """The value is no channel that can be meant."""

    def __init__(self, value):
        super().__init__("there is no such channel")
        self.value = value


class NoDirection(LookupError):
    """The value is no direction that can be meant."""

    def __init__(self, value):
        super().__init__("there is no such direction")
        self.value = value


class NoKind(LookupError):
    """The value is no kind that can be meant."""

    def __init__(self, value):
        super().__init__("there is no such kind")
        self.value = value


class NoPlace(LookupError):
    """The value is no place that can be meant."""

    def __init__(self, value):
        super().__init__("there is no such place")
        self.value = value


class NoSize(LookupError):
    """The value is no size that can be meant."""

    def __init__(self, value):
        super().__init__("there is no such size")
        self.value = value


class NoVersion(LookupError):
    """The value is no version that can be meant."""

    def __init__(self, value):
        super().__init__("there is no such version")
        self.value = value
