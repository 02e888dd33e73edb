"""Links: reads, writes and answers in two directions, and whether they can get stuck."""

from buswindows.errors import BadRules, Full, Held, NoDirection, NoKind, NoPlace
from buswindows.values import is_tuple_of, is_within

DIRECTIONS = ("down", "up")
OPPOSITE = {"down": "up", "up": "down"}
SENT = ("read", "write")
MESSAGES = ("answer", "read", "write")


class Link:
    """A link with a queue of messages in each direction, and places for each kind of them."""

    def __init__(self, rules, *, writes=1, reads=2, answers=1):
        _check_rules(rules)
        self._rules = rules
        self._places = {"answer": answers, "read": reads, "write": writes}
        self._queues = {"down": [], "up": []}

    def send(self, direction, kind):
        """Put a read or a write at the end of a queue."""
        _check_direction(direction)
        if kind not in SENT:
            raise NoKind(kind)
        if self._is_full(direction, kind):
            raise Full(kind)
        self._queues[direction].append(kind)

    def leave(self, direction, place):
        """Let the message at a place of a queue leave."""
        _check_direction(direction)
        kinds = self._queues[direction]
        if not is_within(place, 0, len(kinds) - 1):
            raise NoPlace(place)
        if not self._may_pass(kinds, place):
            raise Held(place)
        back = OPPOSITE[direction]
        if kinds[place] == "read":
            if self._is_full(back, "answer"):
                raise Full("answer")
            self._queues[back].append("answer")
        self._queues[direction].pop(place)

    def queue(self, direction):
        """Return the kinds of the messages in a queue, the first one first."""
        _check_direction(direction)
        return tuple(self._queues[direction])

    def drain(self):
        """Let messages leave as long as one can, and return how many left."""
        count = 0
        call = self._first_possible()
        while call is not None:
            direction, place = call
            self.leave(direction, place)
            count += 1
            call = self._first_possible()
        return count

    def __len__(self):
        return len(self._queues["down"] + self._queues["up"])

    def _is_full(self, direction, kind):
        """Return whether there is no free place for a kind in a direction."""
        return self._queues[direction].count(kind) == self._places[kind]

    def _may_pass(self, kinds, place):
        """Return whether the message at a place may pass all messages ahead of it."""
        return all([(kinds[place], ahead) in self._rules for ahead in kinds[:place]])

    def _first_possible(self):
        """Return direction and place of a message that can leave, or None."""
        for direction in DIRECTIONS:
            kinds = self._queues[direction]
            for place, kind in enumerate(kinds):
                answerable = kind != "read" or not self._is_full(OPPOSITE[direction], "answer")
                if answerable and self._may_pass(kinds, place):
                    return (direction, place)
        return None


def _check_direction(value):
    """Raise NoDirection if value is no direction."""
    if value not in DIRECTIONS:
        raise NoDirection(value)


def _check_rules(value):
    """Raise BadRules if value is not rules."""
    if not isinstance(value, tuple) or not all([_is_rule(item) for item in value]):
        raise BadRules()
    if not all([one < other for one, other in zip(value, value[1:])]):
        raise BadRules()


def _is_rule(value):
    """Return whether value is a pair of different kinds."""
    return is_tuple_of(value, 2) and all([kind in MESSAGES for kind in value]) and value[0] != value[1]


def can_stick(rules, *, reads=2, answers=1):
    """Return whether a run sticks."""
    _check_rules(rules)
    return reads > answers and _holding(rules) is not None


def _holding(rules):
    """Return the kinds that, one behind the other, hold the answers behind them although these are waited for, or None.

    The first one is a read, which waits for a place for its answer.
    """
    if ("answer", "read") not in rules:
        return ("read",)
    if ("answer", "write") not in rules and ("write", "read") not in rules:
        return ("read", "write")
    return None


def sticking_run(rules, *, reads=2, answers=1):
    """Return a run that sticks, or None."""
    if not can_stick(rules, reads=reads, answers=answers):
        return None
    calls = []
    for direction in DIRECTIONS:
        # The answers to the first reads take all places, behind the read that needs one itself.
        calls.extend([("send", direction, "read")] * answers)
        calls.extend([("send", direction, kind) for kind in _holding(rules)])
    return tuple(calls)


def sticking_run_holds(rules, value, *, reads=2, answers=1):
    """Return whether value is a run that sticks."""
    link = Link(rules, writes=1, reads=reads, answers=answers)
    if not isinstance(value, tuple) or not all([is_tuple_of(call, 3) for call in value]):
        return False
    try:
        for word, direction, item in value:
            if word == "send":
                link.send(direction, item)
            elif word == "leave":
                link.leave(direction, item)
            else:
                return False
    except (NoDirection, NoKind, NoPlace, Full, Held):
        return False
    link.drain()
    return len(link) > 0
