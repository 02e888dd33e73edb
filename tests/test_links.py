"""Points 2, 3, 25 and 26: links, and runs that stick."""

import itertools
import random
import unittest

from buswindows.errors import BadRules, BusError, Full, Held, NoDirection, NoKind, NoPlace
from buswindows.links import Link, can_stick, sticking_run, sticking_run_holds
from samples import HUGE, OTHERS

KINDS = ("answer", "read", "write")
PAIRS = tuple(itertools.permutations(KINDS, 2))
ALL_RULES = [rules for many in range(7) for rules in itertools.combinations(PAIRS, many)]
OTHER = {"down": "up", "up": "down"}


class Plain:
    """A link as the document tells it, with the words of the errors as answers."""

    def __init__(self, rules, writes=1, reads=2, answers=1):
        self.rules = rules
        self.places = {"answer": answers, "read": reads, "write": writes}
        self.queues = {"down": (), "up": ()}

    def free(self, direction, kind):
        return sum(other == kind for other in self.queues[direction]) < self.places[kind]

    def send(self, direction, kind):
        if direction not in ("down", "up"):
            return ("NoDirection", direction)
        if kind not in ("read", "write"):
            return ("NoKind", kind)
        if not self.free(direction, kind):
            return ("Full", kind)
        self.queues[direction] += (kind,)
        return None

    def leave(self, direction, place):
        if direction not in ("down", "up"):
            return ("NoDirection", direction)
        queue = self.queues[direction]
        if place not in range(len(queue)):
            return ("NoPlace", place)
        for ahead in queue[:place]:
            if (queue[place], ahead) not in self.rules:
                return ("Held", place)
        if queue[place] == "read":
            if not self.free(OTHER[direction], "answer"):
                return ("Full", "answer")
            self.queues[OTHER[direction]] += ("answer",)
        self.queues[direction] = queue[:place] + queue[place + 1:]
        return None

    def state(self):
        return (self.queues["down"], self.queues["up"])


def told(call, *arguments):
    """What a call answers, an error as its name and its fields."""
    try:
        return call(*arguments)
    except (BusError, LookupError) as error:
        return (type(error).__name__,) + tuple(vars(error).values())


def sticks(rules, reads, answers):
    """Whether some run comes to where there are messages and none can leave."""
    start = ((), ())
    seen, todo = {start}, [start]
    while todo:
        state = todo.pop()
        calls = [("leave", direction, place) for direction, queue in zip(("down", "up"), state)
                 for place in range(len(queue))]
        left = 0
        for call in calls + [("send", direction, kind) for direction in ("down", "up") for kind in ("read", "write")]:
            link = Plain(rules, 1, reads, answers)
            link.queues = dict(zip(("down", "up"), state))
            if getattr(link, call[0])(*call[1:]) is None:
                left += call[0] == "leave"
                if link.state() not in seen:
                    seen.add(link.state())
                    todo.append(link.state())
        if calls and left == 0:
            return True
    return False


class Queues(unittest.TestCase):
    def test_random_calls_against_the_words(self):
        source = random.Random(2)
        seen = set()
        for rules in ALL_RULES:
            for _ in range(3):
                places = {"writes": source.randrange(1, 4), "reads": source.randrange(1, 5),
                          "answers": source.randrange(1, 4)}
                link, plain = Link(rules, **places), Plain(rules, **places)
                for _ in range(50):
                    direction = source.choice(["down", "up", "down", "up", "left"])
                    call = source.choice(["send", "leave"])
                    if call == "send":
                        item = source.choice(["read", "read", "write", "answer"])
                    else:
                        item = source.choice([0, 0, 1, 2, 3, 7, -1])
                    answer = told(getattr(link, call), direction, item)
                    self.assertEqual(answer, getattr(plain, call)(direction, item))
                    seen.add(answer and answer[0])
                    self.assertEqual((link.queue("down"), link.queue("up")), plain.state())
                    self.assertEqual(len(link), sum(len(queue) for queue in plain.state()))
        self.assertEqual(seen, {None, "NoDirection", "NoKind", "Full", "NoPlace", "Held"})

    def test_drain_leaves_the_same_in_whatever_order(self):
        source = random.Random(3)
        for rules in ALL_RULES:
            link, plain = Link(rules, writes=2, reads=3), Plain(rules, 2, 3, 1)
            for _ in range(16):
                direction, kind = source.choice(["down", "up"]), source.choice(["read", "write"])
                self.assertEqual(told(link.send, direction, kind), plain.send(direction, kind))
                if source.random() < 0.3:
                    self.assertEqual(told(link.leave, direction, 0), plain.leave(direction, 0))
            left = 0
            while True:
                places = [(direction, place) for direction in OTHER for place in range(len(plain.queues[direction]))]
                source.shuffle(places)
                if not any(plain.leave(*place) is None for place in places):
                    break
                left += 1
            self.assertEqual(link.drain(), left)
            self.assertEqual((link.queue("down"), link.queue("up")), plain.state())
            self.assertEqual(link.drain(), 0)

    def test_an_answer_comes_to_the_end_of_the_other_queue(self):
        link = Link(())
        for direction, kind in (("down", "read"), ("up", "write"), ("up", "read")):
            self.assertIsNone(link.send(direction, kind))
        self.assertIsNone(link.leave("down", 0))
        self.assertEqual((link.queue("down"), link.queue("up")), ((), ("write", "read", "answer")))
        self.assertEqual(len(link), 3)
        self.assertEqual(link.drain(), 4)
        self.assertEqual(len(link), 0)

    def test_default_places(self):
        link = Link(())
        for kinds in (["write"], ["read", "read"]):
            for kind in kinds:
                link.send("up", kind)
            with self.assertRaises(Full) as caught:
                link.send("up", kinds[0])
            self.assertEqual(caught.exception.value, kinds[0])
        link.send("down", "read")
        link.send("down", "read")
        link.leave("down", 0)
        with self.assertRaises(Full) as caught:
            link.leave("down", 0)
        self.assertEqual(caught.exception.value, "answer")
        self.assertEqual(link.queue("up"), ("write", "read", "read", "answer"))

    def test_most_places(self):
        link = Link((), writes=9, reads=9, answers=9)
        for kind in ("write", "read"):
            for _ in range(9):
                link.send("down", kind)
            self.assertRaises(Full, link.send, "down", kind)
        self.assertEqual(link.drain(), 27)

    def test_passing_asks_for_all_ahead(self):
        link = Link((("read", "write"),), reads=3)
        for kind in ("write", "read", "read"):
            link.send("down", kind)
        with self.assertRaises(Held) as caught:
            link.leave("down", 2)
        self.assertEqual(caught.exception.value, 2)
        self.assertIsNone(link.leave("down", 1))
        self.assertEqual(link.queue("down"), ("write", "read"))
        # What it may not pass is told before that there is no place for its answer.
        self.assertRaises(Full, link.leave, "down", 1)
        held = Link(())
        held.send("down", "read")
        held.leave("down", 0)
        held.send("down", "write")
        held.send("down", "read")
        self.assertRaises(Held, held.leave, "down", 1)


class Refusals(unittest.TestCase):
    def refused(self, error, value, call, *arguments):
        with self.assertRaises(error) as caught:
            call(*arguments)
        self.assertIs(caught.exception.value, value)

    def test_directions_kinds_and_places(self):
        link = Link(())
        link.send("down", "write")
        for value in OTHERS + [HUGE, "Down", "answer", 1]:
            self.refused(NoDirection, value, link.send, value, "read")
            self.refused(NoDirection, value, link.send, value, [])
            self.refused(NoDirection, value, link.leave, value, 0)
            self.refused(NoDirection, value, link.leave, value, [])
            self.refused(NoDirection, value, link.queue, value)
            self.refused(NoKind, value, link.send, "down", value)
            self.refused(NoPlace, value, link.leave, "down", value)
        self.refused(NoPlace, 0, link.leave, "up", 0)
        self.assertRaises(NoPlace, link.leave, "down", False)
        self.assertEqual((link.queue("down"), link.queue("up")), (("write",), ()))

    def test_rules(self):
        for rules in ALL_RULES:
            self.assertEqual(len(Link(rules)), 0)
            if len(rules) > 1:
                self.assertRaises(BadRules, Link, rules[::-1])
        for value in OTHERS + [HUGE, list(PAIRS), (PAIRS[0], PAIRS[0]), (("read", "read"),), (["read", "write"],),
                               (("read", "write", "write"),), (("read",),), (("read", "other"),), (PAIRS[0], None),
                               ("read", "write"), {"read": "write"}, (("answer", ["read"]),)]:
            if value != ():
                for call in (Link, can_stick, sticking_run, lambda rules: sticking_run_holds(rules, ())):
                    with self.assertRaises(BadRules) as caught:
                        call(value)
                    self.assertEqual(vars(caught.exception), {})

    def test_a_link_is_equal_to_nothing_but_itself(self):
        link = Link(())
        self.assertIs(link == link, True)
        for value in OTHERS + [Link(()), ()]:
            self.assertIs(link == value, False)


class Sticking(unittest.TestCase):
    def test_against_all_runs(self):
        for reads, answers, rows in ((1, 1, ALL_RULES), (2, 1, ALL_RULES), (1, 2, ALL_RULES[::5]), (3, 1, ALL_RULES[::5])):
            for rules in rows:
                expected = sticks(rules, reads, answers)
                self.assertIs(can_stick(rules, reads=reads, answers=answers), expected)
                self.run_holds(rules, reads, answers, expected)

    def run_holds(self, rules, reads, answers, expected):
        run = sticking_run(rules, reads=reads, answers=answers)
        self.assertEqual(run, sticking_run(rules, reads=reads, answers=answers))
        self.assertEqual(run is not None, expected)
        self.assertIs(sticking_run_holds(rules, run, reads=reads, answers=answers), expected)
        if run is not None:
            link = Link(rules, reads=reads, answers=answers)
            for name, *arguments in run:
                getattr(link, name)(*arguments)
            link.drain()
            self.assertGreater(len(link), 0)

    def test_all_places(self):
        for reads in range(1, 10):
            for answers in range(1, 10):
                for rules in ALL_RULES:
                    expected = reads > answers and (("answer", "read") not in rules or (
                        ("answer", "write") not in rules and ("write", "read") not in rules))
                    self.assertIs(can_stick(rules, reads=reads, answers=answers), expected)
                    if reads in (1, 2, 9):
                        self.run_holds(rules, reads, answers, expected)

    def test_default_places(self):
        for rules in ALL_RULES:
            self.assertEqual(can_stick(rules), can_stick(rules, reads=2, answers=1))
            self.assertEqual(sticking_run(rules), sticking_run(rules, reads=2, answers=1))
            self.assertEqual(can_stick(rules, answers=2), False)
            self.assertIsNone(sticking_run(rules, answers=2))
            self.assertEqual(can_stick(rules, reads=1), False)
            self.assertIsNone(sticking_run(rules, reads=1))
            if can_stick(rules):
                self.assertIs(sticking_run_holds(rules, sticking_run(rules)), True)

    def test_random_runs(self):
        source = random.Random(7)
        good = 0
        for rules in ALL_RULES * 12:
            run = list(sticking_run(rules) or sticking_run(()))
            for _ in range(source.randrange(3)):
                at = source.randrange(len(run) + 1)
                call = source.choice([("send", source.choice(["down", "up"]), source.choice(["read", "write"])),
                                      ("leave", source.choice(["down", "up"]), source.randrange(3))])
                run[at:at + source.randrange(2)] = [call] * source.randrange(2)
            link = Plain(rules)
            done = all(getattr(link, name)(*arguments) is None for name, *arguments in run)
            while done and any(link.leave(direction, place) is None for direction in OTHER
                               for place in range(len(link.queues[direction]))):
                pass
            expected = done and link.state() != ((), ())
            self.assertIs(sticking_run_holds(rules, tuple(run)), expected)
            good += expected
        self.assertTrue(50 < good < 64 * 12)

    def test_other_values_do_not_hold(self):
        run = sticking_run(())
        self.assertIs(sticking_run_holds((), run), True)
        self.assertIs(sticking_run_holds((), list(run)), False)
        self.assertIs(sticking_run_holds((), ()), False)
        self.assertIs(sticking_run_holds((), run, reads=1), False)
        self.assertIs(sticking_run_holds((), run, answers=2), False)
        self.assertIs(sticking_run_holds((("answer", "read"), ("answer", "write")), run), False)
        for value in OTHERS + [HUGE]:
            self.assertIs(sticking_run_holds((), value), False)
            self.assertIs(sticking_run_holds((), run + (value,)), False)
            self.assertIs(sticking_run_holds((), (value,) + run), False)
            for at in range(len(run)):
                for item in range(3):
                    call = run[at][:item] + (value,) + run[at][item + 1:]
                    self.assertIs(sticking_run_holds((), run[:at] + (call,) + run[at + 1:]), False)
        # Whatever leaves before, what is left in the end is the same.
        first = run + (("leave", run[-1][1], 0), ("leave", run[0][1], 0))
        self.assertIs(sticking_run_holds((), first), True)
        for call in (list(run[0]), run[0] + (None,), run[0][:2], ("drain", "down", 0), ("queue", "down", "read"),
                     ("send", "down", "answer"), ("leave", "down", 0), ("send", "left", "read")):
            self.assertIs(sticking_run_holds((), (call,) + run), False)
        self.assertIs(sticking_run_holds((), run + (("leave", run[-1][1], False),)), False)
        # Whatever can be sent once it is stuck leaves it so.
        self.assertIs(sticking_run_holds((), run + (("send", "down", "write"),)), True)


if __name__ == "__main__":
    unittest.main()
