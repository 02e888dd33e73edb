"""Nets of channels, and slow but plain ways to tell what holds of them."""

import itertools
import random


def some_net(seed, stations=5, channels=10):
    """A net out of a random source: for each goal the stations get their channels one by one, towards the goal."""
    source = random.Random(seed)
    stations = source.randrange(1, stations + 1)
    pairs = list(itertools.permutations(range(stations), 2))
    channels = tuple(source.choice(pairs) for _ in range(source.randrange(channels + 1))) if pairs else ()
    table = [[None] * stations for _ in range(stations)]
    for goal in range(stations):
        reached = [goal]
        while source.random() < 0.9:
            usable = [at for at, (begin, end) in enumerate(channels) if end in reached and begin not in reached]
            if not usable:
                break
            channel = source.choice(usable)
            reached.append(channels[channel][0])
            table[channels[channel][0]][goal] = channel
    return (stations, channels, tuple(tuple(row) for row in table))


def ring_net(stations, extra=()):
    """Stations in a circle, each channel to the next one; all goals are reached around it."""
    channels = tuple((at, (at + 1) % stations) for at in range(stations))
    table = tuple(tuple(None if at == goal else at for goal in range(stations)) for at in range(stations))
    return (stations, channels + tuple(extra), table)


def line_net(stations):
    """Stations in a line, with channels both ways."""
    channels = tuple((at, at + 1) for at in range(stations - 1)) + tuple((at + 1, at) for at in range(stations - 1))
    table = tuple(tuple(None if at == goal else at if at < goal else stations - 2 + at for goal in range(stations))
                  for at in range(stations))
    return (stations, channels, table)


def pairs_of(net):
    """All (c, d, goal) such that d follows c because of the goal."""
    stations, channels, table = net
    return [(c, d, goal) for c, d, goal in itertools.product(range(len(channels)), range(len(channels)), range(stations))
            if table[channels[c][0]][goal] == c and channels[c][1] != goal and table[channels[c][1]][goal] == d]


def longest_row(net, channel, behind=()):
    """The number of channels in the longest row that ends before a channel, None if there is a ring on the way."""
    before = {c for c, d, _ in pairs_of(net) if d == channel}
    if channel in behind:
        return None
    lengths = [longest_row(net, c, behind + (channel,)) for c in before]
    return None if None in lengths else max([0] + [length + 1 for length in lengths])


def plain_net_error(value):
    """What net_error tells, by the words of the document."""
    def integer(item, many):
        return type(item) is int and 0 <= item < many

    if type(value) is not tuple or len(value) != 3:
        return (None, "net")
    stations, channels, table = value
    if type(stations) is not int or stations not in range(1, 9):
        return (None, "stations")
    if type(channels) is not tuple or len(channels) > 16:
        return (None, "channels")
    for index, pair in enumerate(channels):
        good = type(pair) is tuple and len(pair) == 2 and all(integer(item, stations) for item in pair)
        if not good or pair[0] == pair[1]:
            return (index, "channel")
    if type(table) is not tuple or len(table) != stations:
        return (None, "table")
    for station, row in enumerate(table):
        if type(row) is not tuple or len(row) != stations:
            return (station, "row")
    cells = list(itertools.product(range(stations), repeat=2))
    for station, goal in cells:
        cell = table[station][goal]
        if cell is not None and (station == goal or not integer(cell, len(channels)) or channels[cell][0] != station):
            return ((station, goal), "cell")
    for station, goal in cells:
        at = station
        for _ in range(20):
            if at != goal and table[at][goal] is not None:
                at = channels[table[at][goal]][1]
        if table[station][goal] is not None and at != goal:
            return ((station, goal), "endless")
    return None


class Crowd:
    """Messages on a net, as the document tells it, with the words of the errors as answers."""

    def __init__(self, net, places, queues=None):
        self.net, self.places = net, places
        self.queues = [list(queue) for queue in queues] if queues else [[] for _ in net[1]]
        self.arrived = 0

    def send(self, station, goal):
        for value in (station, goal):
            if type(value) is not int or not 0 <= value < self.net[0]:
                return ("NoStation", value)
        channel = self.net[2][station][goal]
        if channel is None:
            return ("NoWay",)
        if len(self.queues[channel]) >= self.places:
            return ("Full", channel)
        self.queues[channel].append(goal)
        return None

    def step(self, channel):
        if type(channel) is not int or not 0 <= channel < len(self.queues):
            return ("NoChannel", channel)
        if not self.queues[channel]:
            return ("Nothing",)
        goal, end = self.queues[channel][0], self.net[1][channel][1]
        if end == goal:
            self.arrived += 1
        else:
            following = self.net[2][end][goal]
            if len(self.queues[following]) >= self.places:
                return ("Full", following)
            self.queues[following].append(goal)
        del self.queues[channel][0]
        return None

    def state(self):
        return tuple(tuple(queue) for queue in self.queues)

    def possible(self):
        """The channels with which a step is possible."""
        return [at for at in range(len(self.queues)) if Crowd(self.net, self.places, self.queues).step(at) is None]

    def drain(self):
        steps = 0
        while self.possible():
            self.step(self.possible()[0])
            steps += 1
        return steps


def can_get_stuck(net, places=1):
    """Whether some sends and steps come to where there are messages and no step is possible."""
    start = Crowd(net, places).state()
    seen, todo = {start}, [start]
    while todo:
        state = todo.pop()
        if any(state) and not Crowd(net, places, state).possible():
            return True
        for call in [(at,) for at in range(len(net[1]))] + list(itertools.product(range(net[0]), repeat=2)):
            crowd = Crowd(net, places, state)
            if (crowd.step(*call) if len(call) == 1 else crowd.send(*call)) is None and crowd.state() not in seen:
                seen.add(crowd.state())
                todo.append(crowd.state())
    return False
