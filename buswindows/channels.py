"""Channels: messages on the way to their goals, and whether they can get stuck."""

from buswindows.errors import Full, NoChannel, NoStation, Nothing, NoWay
from buswindows.values import is_integer, is_tuple_of, is_within

MOST_STATIONS = 8
MOST_CHANNELS = 16


def net_error(value):
    """Return None if value is a net, otherwise the place and the word of what is wrong first."""
    if not is_tuple_of(value, 3):
        return (None, "net")
    stations, channels, table = value
    if not is_within(stations, 1, MOST_STATIONS):
        return (None, "stations")
    if not isinstance(channels, tuple) or len(channels) > MOST_CHANNELS:
        return (None, "channels")
    for index, channel in enumerate(channels):
        if not _is_channel(stations, channel):
            return (index, "channel")
    return _table_error(value)


def _is_channel(stations, value):
    """Return whether value is a pair of different stations."""
    if not is_tuple_of(value, 2):
        return False
    return all([is_within(item, 0, stations - 1) for item in value]) and value[0] != value[1]


def _table_error(net):
    """Return what is wrong first with the table of a net, or None."""
    stations, channels, table = net
    if not is_tuple_of(table, stations):
        return (None, "table")
    for station, row in enumerate(table):
        if not is_tuple_of(row, stations):
            return (station, "row")
    cells = [(station, goal) for station in range(stations) for goal in range(stations)]
    for station, goal in cells:
        if not _is_cell(channels, station, goal, table[station][goal]):
            return ((station, goal), "cell")
    for station, goal in cells:
        if table[station][goal] is not None and not _comes_to(net, station, goal):
            return ((station, goal), "endless")
    return None


def _is_cell(channels, station, goal, value):
    """Return whether value may be the item of a table for a goal in the row of a station."""
    if value is None:
        return True
    return station != goal and is_within(value, 0, len(channels) - 1) and channels[value][0] == station


def _comes_to(net, station, goal):
    """Return whether whoever follows the table from a station comes to a goal."""
    stations, channels, table = net
    at = station
    # A way of more channels than there are stations comes to some station twice.
    for _ in range(stations):
        if table[at][goal] is None:
            return at == goal
        at = channels[table[at][goal]][1]
    return at == goal


def followers(net):
    """Return the ascending tuple of the pairs (c, d) such that the channel d follows the channel c."""
    return tuple(sorted(_goals(net)))


def _goals(net):
    """Return the least goal for which d follows c, for each such pair (c, d)."""
    stations, channels, table = net
    goals = {}
    for goal in range(stations):
        for channel, (begin, end) in enumerate(channels):
            following = table[end][goal]
            if table[begin][goal] == channel and following is not None:
                goals.setdefault((channel, following), goal)
    return goals


def rising(net):
    """Return the least rising numbers, None if there is a ring."""
    pairs = followers(net)
    numbers = [0] * len(net[1])
    # Without a ring no row of channels has more of them than there are.
    for _ in range(len(numbers)):
        for channel, following in pairs:
            numbers[following] = max(numbers[following], numbers[channel] + 1)
    return tuple(numbers) if _rise(pairs, numbers) else None


def _rise(pairs, numbers):
    """Return whether in each of the pairs the second channel has a greater number than the first one."""
    return all([numbers[channel] < numbers[following] for channel, following in pairs])


def rising_holds(net, value):
    """Return whether value is rising numbers."""
    if not is_tuple_of(value, len(net[1])) or not all([is_integer(item) for item in value]):
        return False
    return _rise(followers(net), value)


def ring(net):
    """Return a ring, None if there are rising numbers."""
    goals = _goals(net)
    left = _in_rings(sorted(goals), len(net[1]))
    if left == []:
        return None
    # Each channel that is left is followed by one of them, so some of them comes again.
    row = [left[0]]
    following = _next_of(goals, left, left[0])
    while following not in row:
        row.append(following)
        following = _next_of(goals, left, following)
    row = row[row.index(following):]
    return tuple([(channel, goals[(channel, after)]) for channel, after in zip(row, row[1:] + row[:1])])


def _in_rings(pairs, many):
    """Return the channels that are left when those which no channel that is left follows are taken away."""
    left = list(range(many))
    for _ in range(many):
        left = [one for one in left if any([channel == one and following in left for channel, following in pairs])]
    return left


def _next_of(goals, left, channel):
    """Return the first one of these channels that follows a channel."""
    return [following for following in left if (channel, following) in goals][0]


def ring_holds(net, value):
    """Return whether value is a ring."""
    stations, channels, table = net
    if not isinstance(value, tuple) or len(value) < 2 or not all([_is_ring_row(net, row) for row in value]):
        return False
    row = [channel for channel, goal in value]
    if len(set(row)) < len(row):
        return False
    return all([table[channels[channel][1]][goal] == after
                for (channel, goal), after in zip(value, row[1:] + row[:1])])


def _is_ring_row(net, value):
    """Return whether value is a pair of a channel and a goal for which it is taken, but where it does not end."""
    stations, channels, table = net
    if not is_tuple_of(value, 2) or not is_within(value[0], 0, len(channels) - 1):
        return False
    channel, goal = value
    begin, end = channels[channel]
    return is_within(goal, 0, stations - 1) and table[begin][goal] == channel and end != goal


class Traffic:
    """Messages on a net, in queues at the ends of the channels."""

    def __init__(self, net, *, places=1):
        self._net = net
        self._places = places
        self._queues = [[] for channel in net[1]]
        self._arrived = 0

    def send(self, station, goal):
        """Put a message for a goal into its first channel."""
        stations, channels, table = self._net
        for value in (station, goal):
            if not is_within(value, 0, stations - 1):
                raise NoStation(value)
        channel = table[station][goal]
        if channel is None:
            raise NoWay()
        self._put(channel, goal)

    def step(self, channel):
        """Move the first message of a channel on."""
        if not is_within(channel, 0, len(self._queues) - 1):
            raise NoChannel(channel)
        if len(self._queues[channel]) == 0:
            raise Nothing()
        following = self._following(channel)
        if following is None:
            self._arrived += 1
        else:
            self._put(following, self._queues[channel][0])
        self._queues[channel].pop(0)

    @property
    def queues(self):
        """The goals of the messages in each channel, the first one first."""
        return tuple([tuple(goals) for goals in self._queues])

    @property
    def arrived(self):
        """The number of messages that have arrived."""
        return self._arrived

    def is_stuck(self):
        """Return whether there are messages and no step is possible."""
        return len(self) > 0 and self._first_possible() is None

    def drain(self):
        """Make the possible step of the channel with the least index as long as there is one; return how many."""
        steps = 0
        channel = self._first_possible()
        while channel is not None:
            self.step(channel)
            steps += 1
            channel = self._first_possible()
        return steps

    def __len__(self):
        return len([goal for goals in self._queues for goal in goals])

    def __eq__(self, other):
        return (isinstance(other, Traffic) and self._net == other._net and self._places == other._places
                and self._queues == other._queues)

    def _put(self, channel, goal):
        """Put a message for a goal at the end of the queue of a channel."""
        if len(self._queues[channel]) == self._places:
            raise Full(channel)
        self._queues[channel].append(goal)

    def _following(self, channel):
        """Return the channel into which the first message of a channel goes on, None if it is at its goal."""
        stations, channels, table = self._net
        return table[channels[channel][1]][self._queues[channel][0]]

    def _first_possible(self):
        """Return the least channel with which a step is possible, or None."""
        for channel, goals in enumerate(self._queues):
            if len(goals) > 0:
                following = self._following(channel)
                if following is None or len(self._queues[following]) < self._places:
                    return channel
        return None


def stuck_run(net, places):
    """Return what can be sent on a new Traffic so that it is stuck, None if nothing can."""
    rows = ring(net)
    if rows is None:
        return None
    # Each channel of the ring is full of messages that wait for the next one.
    return tuple([(net[1][channel][0], goal) for channel, goal in rows for _ in range(places)])


def stuck_run_holds(net, places, value):
    """Return whether value is what can be sent on a new Traffic so that it is stuck."""
    if not isinstance(value, tuple) or not all([is_tuple_of(item, 2) for item in value]):
        return False
    traffic = Traffic(net, places=places)
    try:
        for station, goal in value:
            traffic.send(station, goal)
    except (NoStation, NoWay, Full):
        return False
    return traffic.is_stuck()
