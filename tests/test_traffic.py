"""Points 2, 3 and 24: messages on a net."""

import random
import unittest

from buswindows.channels import Traffic, ring, rising, stuck_run, stuck_run_holds
from buswindows.errors import BusError, Full, NoChannel, NoStation, Nothing, NoWay
from nets import Crowd, line_net, ring_net, some_net
from samples import HUGE, OTHERS

N = (3, ((0, 1), (1, 2), (2, 0)), ((None, 0, 0), (1, None, 1), (2, 2, None)))
EMPTY = (1, (), ((None,),))
NETS = [N, EMPTY, ring_net(8), line_net(8), ring_net(3, [(0, 2)])] + [some_net(seed, 6, 12) for seed in range(60)]


def told(call, *arguments):
    """What a call answers, an error as its name and its fields."""
    try:
        return call(*arguments)
    except (BusError, LookupError) as error:
        return (type(error).__name__,) + tuple(vars(error).values())


class Messages(unittest.TestCase):
    def test_random_calls_against_the_words(self):
        source = random.Random(8)
        seen = set()
        for net in NETS:
            for places in (1, 2, 9):
                traffic, crowd = Traffic(net, places=places), Crowd(net, places)
                for _ in range(60):
                    call = source.choice(["send", "send", "step"])
                    arguments = [source.randrange(-1, net[0] + 1) for _ in range(2)]
                    if call == "step":
                        arguments = [source.randrange(-1, len(net[1]) + 1)]
                    answer = told(getattr(traffic, call), *arguments)
                    self.assertEqual(answer, getattr(crowd, call)(*arguments))
                    seen.add(answer and answer[0])
                    self.check(traffic, crowd)
                self.assertEqual(traffic.drain(), crowd.drain())
                self.check(traffic, crowd)
                self.assertEqual(traffic.drain(), 0)
                self.assertEqual(traffic.is_stuck(), len(traffic) > 0)
                if rising(net) is not None:
                    self.assertEqual(len(traffic), 0)
        self.assertEqual(seen, {None, "NoStation", "NoWay", "Full", "NoChannel", "Nothing"})

    def check(self, traffic, crowd):
        self.assertEqual(traffic.queues, crowd.state())
        self.assertEqual(traffic.arrived, crowd.arrived)
        self.assertEqual(len(traffic), sum(len(queue) for queue in crowd.queues))
        self.assertIs(traffic.is_stuck(), len(traffic) > 0 and not crowd.possible())

    def test_a_new_one(self):
        for net in NETS:
            traffic = Traffic(net)
            self.assertEqual((traffic.queues, traffic.arrived, len(traffic)), (((),) * len(net[1]), 0, 0))
            self.assertIs(traffic.is_stuck(), False)
            self.assertEqual(traffic.drain(), 0)

    def test_places(self):
        for places in (1, 2, 9):
            traffic = Traffic(N, places=places)
            for _ in range(places):
                self.assertIsNone(traffic.send(0, 1))
            self.assertEqual(traffic.queues, ((1,) * places, (), ()))
            with self.assertRaises(Full) as caught:
                traffic.send(0, 2)
            self.assertEqual(caught.exception.value, 0)
            self.assertIsNone(traffic.step(0))
            self.assertEqual((traffic.arrived, len(traffic)), (1, places - 1))
        one = Traffic(N)
        one.send(0, 1)
        self.assertRaises(Full, one.send, 0, 1)

    def test_a_queue_goes_on_in_its_order(self):
        traffic = Traffic(line_net(4), places=3)
        for goal in (1, 3, 2):
            traffic.send(0, goal)
        self.assertEqual(traffic.queues[0], (1, 3, 2))
        traffic.step(0)
        traffic.step(0)
        self.assertEqual(traffic.queues[:3], ((2,), (3,), ()))
        self.assertEqual(traffic.arrived, 1)
        self.assertEqual(traffic.drain(), 4)
        self.assertEqual(traffic.arrived, 3)

    def test_drain_takes_the_channel_with_the_least_index(self):
        # The message in channel 0 goes first into the one place of channel 2, and gets through before the other one.
        net = (4, ((0, 2), (1, 2), (2, 3), (3, 0)),
               ((None, None, 0, 0), (None, None, 1, 1), (3, None, None, 2), (3, None, None, None)))
        net = (4, net[1], ((None, None, 0, 0), (None, None, 1, 1), (None, None, None, 2), (None,) * 4))
        traffic = Traffic(net)
        traffic.send(1, 3)
        traffic.send(0, 3)
        traffic.send(2, 3)
        with self.assertRaises(Full) as caught:
            traffic.step(0)
        self.assertEqual(caught.exception.value, 2)
        self.assertEqual(traffic.drain(), 5)
        self.assertEqual((traffic.arrived, traffic.queues), (3, ((), (), (), ())))

    def test_stuck(self):
        traffic = Traffic(N)
        for station, goal in ((0, 2), (1, 0)):
            traffic.send(station, goal)
            self.assertIs(traffic.is_stuck(), False)
        traffic.send(2, 1)
        self.assertIs(traffic.is_stuck(), True)
        self.assertEqual((traffic.drain(), len(traffic)), (0, 3))

    def test_properties_are_only_read(self):
        traffic = Traffic(N)
        for name in ("queues", "arrived"):
            with self.assertRaises(AttributeError):
                setattr(traffic, name, 0)
        queues = traffic.queues
        traffic.send(0, 1)
        self.assertEqual(queues, ((), (), ()))
        self.assertIs(type(traffic.queues), tuple)
        self.assertIs(type(traffic.queues[0]), tuple)


class Refusals(unittest.TestCase):
    def refused(self, error, value, call, *arguments):
        with self.assertRaises(error) as caught:
            call(*arguments)
        if value is not None:
            self.assertIs(caught.exception.value, value[0])

    def test_stations(self):
        traffic = Traffic(N)
        traffic.send(0, 1)
        for value in OTHERS + [3, -1, HUGE]:
            self.refused(NoStation, [value], traffic.send, value, 0)
            self.refused(NoStation, [value], traffic.send, 0, value)
            self.refused(NoStation, [value], traffic.send, value, [value])
        self.assertEqual(traffic.queues, ((1,), (), ()))

    def test_no_way(self):
        traffic = Traffic(line_net(3))
        self.refused(NoWay, None, traffic.send, 1, 1)
        traffic = Traffic((2, ((0, 1),), ((None, 0), (None, None))))
        traffic.send(0, 1)
        self.refused(NoWay, None, traffic.send, 1, 0)
        self.refused(Full, [0], traffic.send, 0, 1)
        self.assertEqual(traffic.queues, ((1,),))

    def test_channels(self):
        traffic = Traffic(N)
        traffic.send(0, 2)
        for value in OTHERS + [3, -1, HUGE]:
            self.refused(NoChannel, [value], traffic.step, value)
        self.refused(Nothing, None, traffic.step, 1)
        self.refused(NoChannel, [0], Traffic(EMPTY).step, 0)
        traffic.send(1, 0)
        self.refused(Full, [1], traffic.step, 0)
        self.assertEqual((traffic.queues, traffic.arrived), (((2,), (0,), ()), 0))


class Equality(unittest.TestCase):
    def test_nets_places_and_queues(self):
        self.assertEqual(Traffic(N), Traffic(N, places=1))
        self.assertNotEqual(Traffic(N), Traffic(N, places=2))
        self.assertNotEqual(Traffic(N), Traffic(ring_net(4)))
        one, other = Traffic(N, places=2), Traffic(N, places=2)
        one.send(0, 2)
        self.assertIs(one == other, False)
        self.assertIs(one != other, True)
        other.send(0, 1)
        self.assertNotEqual(one, other)
        other.send(0, 2)
        self.assertNotEqual(one, other)
        # What has arrived does not matter.
        other.step(0)
        self.assertIs(one == other, True)
        self.assertNotEqual(one.arrived, other.arrived)

    def test_other_things(self):
        traffic = Traffic(N)
        for value in OTHERS + [N, traffic.queues]:
            self.assertIs(traffic == value, False)
            self.assertIs(traffic != value, True)


class StuckRuns(unittest.TestCase):
    def test_runs_hold(self):
        for net in NETS:
            for places in (1, 3, 9):
                run = stuck_run(net, places)
                self.assertEqual(run, stuck_run(net, places))
                self.assertEqual(run is None, ring(net) is None)
                self.assertIs(stuck_run_holds(net, places, run), run is not None)
                if run is not None:
                    traffic = Traffic(net, places=places)
                    for pair in run:
                        traffic.send(*pair)
                    self.assertIs(traffic.is_stuck(), True)
                    self.assertIs(stuck_run_holds(net, places, list(run)), False)

    def test_random_runs(self):
        source = random.Random(6)
        good = 0
        for net in [N, ring_net(4), ring_net(3, [(0, 2)])] * 20 + NETS:
            for places in (1, 2):
                # Around a circle, to the station behind the next one, but for a few.
                value = [(at, (at + source.choice([2, 2, 2, 2, 2, 1])) % net[0]) for at in range(net[0])] * places
                source.shuffle(value)
                value = tuple(value[:source.choice([99, 99, 99, 2])])
                crowd = Crowd(net, places)
                sent = all(crowd.send(*pair) is None for pair in value)
                expected = sent and any(crowd.queues) and not crowd.possible()
                self.assertIs(stuck_run_holds(net, places, value), bool(expected))
                good += bool(expected)
        self.assertGreater(good, 3)

    def test_other_values_do_not_hold(self):
        good = ((0, 2), (1, 0), (2, 1))
        self.assertIs(stuck_run_holds(N, 1, good), True)
        self.assertIs(stuck_run_holds(N, 2, good), False)
        self.assertIs(stuck_run_holds(N, 2, good * 2), True)
        for value in OTHERS + [HUGE]:
            self.assertIs(stuck_run_holds(N, 1, value), False)
            self.assertIs(stuck_run_holds(N, 1, good + (value,)), False)
            self.assertIs(stuck_run_holds(N, 1, ((value, 2),) + good[1:]), False)
            self.assertIs(stuck_run_holds(N, 1, ((0, value),) + good[1:]), False)
        for wrong in ((), good[:2], good + good[:1], ((False, 2), (1, 0), (2, 1)), ([0, 2],) + good[1:],
                      ((0, 2, 0),) + good[1:], ((0, 0),) + good, ((0, 1), (1, 0), (2, 1)), [list(good)]):
            self.assertIs(stuck_run_holds(N, 1, wrong), False, wrong)
        self.assertIs(stuck_run_holds(EMPTY, 1, ()), False)
        self.assertIs(stuck_run_holds(N, 9, ((0, 2),) * 4000), False)


if __name__ == "__main__":
    unittest.main()
