"""Points [118] to [121], [125]: histories, sources, clashes, orders and rings, what is seen alike, spread reads."""

import random
import unittest
from itertools import permutations

from rulehouse.errors import BadStep, MadeWrite
from rulehouse.histories import (clash_ring, clashes, is_clash_ring, is_order_of, order_of, seen_orders, sources,
                                 spread)
from rulehouse.rules import Rules
from tests.odd import kinds_of, odd_objects, rules_of

HISTORY = [("read", "a", "x"), ("write", "b", "x"), ("read", "a", "x"), ("write", "c", "x"), ("gone", "c"), ("read", "d", "x"),
           ("write", "a", "y"), ("done", "b"), ("done", "a"), ("read", "d", "y"), ("done", "d")]
RING = [("read", "a", "x"), ("read", "b", "y"), ("write", "a", "y"), ("write", "b", "x"), ("done", "a"), ("done", "b")]
NO_STEPS = [("read", "a"), ("write", "a"), ("done", "a", "x"), ("gone",), ("done", "A"), ("read", "a", "X"), ("read", 1, "x"), ("begin", "a"),
            ("read", "a", 3), ("read", "a", "x", "y"), ["done", None], ("done", "not"), {"done": "a"}, "done", ("Read", "a", "x"), (1, "a"),
            (None, "a", "x"), (("read",), "a", "x"), ("done", ("a",))]


def slow_sources(history):
    found = {}
    for at, step in enumerate(history):
        if step[0] == "read":
            gone = {other[1] for other in history[:at] if other[0] == "gone"}
            writes = [index for index in range(at) if history[index][0] == "write" and history[index][2] == step[2]
                      and history[index][1] not in gone]
            found[at] = max(writes, default=None)
    return found


def done_in(history):
    return sorted([step[1] for step in history if step[0] == "done"])


def slow_clashes(history):
    done = done_in(history)
    return [(i, j) for i in range(len(history)) for j in range(i + 1, len(history))
            if len(history[i]) == len(history[j]) == 3 and history[i][1] != history[j][1] and history[i][2] == history[j][2]
            and history[i][1] in done and history[j][1] in done and "write" in (history[i][0], history[j][0])]


def slow_orders(history):
    pairs = {(history[i][1], history[j][1]) for i, j in slow_clashes(history)}
    return [list(order) for order in permutations(done_in(history))
            if all([order.index(one) < order.index(other) for one, other in pairs])]


def least_ring_size(history):
    """How few clashes a ring has, None if there is none."""
    pairs = {(history[i][1], history[j][1]) for i, j in slow_clashes(history)}
    done = done_in(history)
    for many in range(1, len(done) + 1):
        for some in permutations(done, many):
            if all([pair in pairs for pair in zip(some, some[1:] + some[:1])]):
                return many
    return None


def in_turn(history, order):
    """The reads and writes of dealings one behind another, as pairs (index, step)."""
    return [(at, step) for name in order for at, step in enumerate(history) if len(step) == 3 and step[1] == name]


def seen(works):
    found, last = {}, {}
    for at, step in works:
        if step[0] == "read":
            found[at] = last.get(step[2])
        else:
            last[step[2]] = at
    return found, last


def slow_seen_orders(history):
    done = done_in(history)
    works = [(at, step) for at, step in enumerate(history) if len(step) == 3 and step[1] in done]
    wanted = {at: source for at, source in slow_sources(history).items() if history[at][1] in done}
    return [list(order) for order in permutations(done)
            if seen(in_turn(history, order)) == (wanted, seen(works)[1])]


def drawn(seed, most=16):
    """A history of up to five dealings."""
    dice = random.Random(seed)
    names, relations = "abcde"[:2 + seed % 4], "xyz"[:1 + seed % 3]
    steps, ended = [], []
    for _ in range(dice.randint(0, most)):
        left = [name for name in names if name not in ended]
        if not left:
            break
        name = dice.choice(left)
        word = dice.choice(("read", "read", "write", "write", "read", "write", "done", "gone") if seed % 2 else (
            "read", "write", "read", "write", "read", "write", "done"))
        if word in ("done", "gone"):
            ended.append(name)
            steps.append((word, name))
        else:
            steps.append((word, name, dice.choice(relations)))
    for name in names:
        if name not in ended and dice.random() < 0.8:
            steps.append(("done", name))
    return steps


class Histories(unittest.TestCase):
    def test_sources(self):
        self.assertEqual(list(sources(HISTORY).items()), [(0, None), (2, 1), (5, 1), (9, 6)])
        self.assertEqual((sources([]), clashes([]), order_of([]), clash_ring([]), seen_orders([])), ({}, [], [], None, [[]]))
        self.assertEqual(sources([["write", "a", "x"], ["read", "a", "x"], ["gone", "a"], ["read", "b", "x"]]), {1: 0, 3: None})
        # What was written ahead of a write that is taken back is there again.
        self.assertEqual(sources(history=(("write", "b", "x"), ("write", "a", "x"), ("write", "a", "x"), ("read", "c", "x"), ("gone", "a"),
                                          ("read", "c", "x"))), {3: 2, 5: 0})

    def test_clashes_and_orders(self):
        self.assertEqual(clashes(HISTORY), [(0, 1), (1, 2), (1, 5), (6, 9)])
        self.assertIsNone(order_of(HISTORY))
        self.assertEqual(clash_ring(HISTORY), [(0, 1), (1, 2)])
        self.assertEqual(order_of(HISTORY[1:]), ["b", "a", "d"])
        self.assertEqual(order_of([("done", "b"), ("read", "c", "x"), ("done", "a")]), ["a", "b"])
        self.assertEqual(clashes([("write", "a", "x"), ("read", "b", "x"), ("done", "a")]), [])
        self.assertEqual(kinds_of(clashes(history=RING)), kinds_of([(0, 3), (1, 2)]))
        self.assertEqual(sorted(clash_ring(history=RING)), [(0, 3), (1, 2)])
        self.assertEqual(clash_ring(RING), clash_ring([list(step) for step in RING]))

    def test_tests_of_orders(self):
        history = HISTORY[1:]
        for thing in (["b", "a", "d"], ("b", "a", "d")):
            self.assertIs(is_order_of(history=history, thing=thing), True)
            self.assertIs(is_order_of(HISTORY, thing), False)
        self.assertIs(is_order_of([], []), True)
        for thing in odd_objects() + [["a", "b", "d"], ["b", "a"], ["b", "a", "d", "c"], ["b", "a", "d", "d"], ["b", "b", "d"], "bad",
                                      {"b": 1, "a": 2, "d": 3}, ["b", "a", None], ["b", "a", ["d"]], ["b", "a", 1]]:
            self.assertIs(is_order_of(history, thing), False, thing)

    def test_tests_of_rings(self):
        for thing in ([(0, 3), (1, 2)], [(1, 2), (0, 3)], ([1, 2], [0, 3])):
            self.assertIs(is_clash_ring(history=RING, thing=thing), True)
        for thing in odd_objects() + [[(0, 3)], [(1, 2), (0, 3), (1, 2), (0, 3)], [(0, 3), (1, 2), (0, 3)], [], [(3, 0), (2, 1)], [(0, 3), (2, 1)],
                                      [(0, 3), (True, 2)], [(0, 3), (1, 2, 3)], [(0, 3), None], [(False, 3), (1, 2)], {(0, 3): 1, (1, 2): 1},
                                      [(0, 3), (1, 9)], [(0, 3), (1, "2")], [(0, 3), [1, [2]]]]:
            self.assertIs(is_clash_ring(RING, thing), False, thing)
        # Three dealings round: no dealing begins two of the clashes.
        three = [("write", "a", "x"), ("write", "b", "x"), ("write", "b", "y"), ("write", "c", "y"), ("write", "c", "z"),
                 ("write", "a", "z"), ("write", "d", "w"), ("read", "a", "w"), ("read", "a", "v"), ("write", "d", "v")]
        three += [("done", name) for name in "abcd"]
        self.assertEqual(len(clash_ring(three)), 2)
        self.assertIs(is_clash_ring(three, [(0, 1), (2, 3), (4, 5)]), True)
        self.assertIs(is_clash_ring(three, [(0, 1), (2, 3), (4, 5), (8, 9), (6, 7)]), False)

    def test_bad_steps(self):
        calls = [sources, clashes, order_of, clash_ring, seen_orders, lambda told: is_order_of(told, None),
                 lambda told: is_clash_ring(told, None), lambda told: spread(told, rules_of("p if q"))]
        for call in calls:
            for thing in odd_objects() + NO_STEPS:
                with self.assertRaises(BadStep) as caught:
                    call([("write", "b", "p"), ("read", "a", "x"), thing, None])
                self.assertEqual(caught.exception.index, 2)
            for thing in (None, "ab", 3, {}, True, Rules([])):
                with self.assertRaises(BadStep) as caught:
                    call(thing)
                self.assertEqual(caught.exception.index, 0)
            for last in (("read", "a", "x"), ("write", "a", "x"), ("done", "a"), ("gone", "a")):
                for end in ("done", "gone"):
                    with self.assertRaises(BadStep) as caught:
                        call([(end, "a"), ("read", "b", "x"), last, None])
                    self.assertEqual(caught.exception.index, 2)

    def test_seen_orders(self):
        self.assertEqual(seen_orders([("read", "a", "x"), ("write", "b", "x"), ("done", "a"), ("done", "b")]), [["a", "b"]])
        self.assertEqual(seen_orders([("write", "a", "x"), ("write", "b", "y"), ("done", "b"), ("done", "a")]), [["a", "b"], ["b", "a"]])
        self.assertEqual(seen_orders(history=RING), [])
        # A read of what is not done, or has gone later, is seen in no order.
        self.assertEqual(seen_orders([("write", "a", "x"), ("read", "b", "x"), ("done", "b")]), [])
        self.assertEqual(seen_orders([("write", "a", "x"), ("read", "b", "x"), ("gone", "a"), ("done", "b")]), [])
        # Writes that nobody reads may clash and be seen alike.
        blind = [("write", "a", "x"), ("write", "b", "x"), ("write", "b", "y"), ("write", "a", "y"), ("write", "c", "x"), ("write", "c", "y"),
                 ("done", "a"), ("done", "b"), ("done", "c")]
        self.assertIsNone(order_of(blind))
        self.assertEqual(seen_orders(blind), [["a", "b", "c"], ["b", "a", "c"]])

    def test_spread(self):
        rules = rules_of("p if q, e", "q if f, not g", "e2 if p", "top")
        history = [("read", "a", "p"), ("read", "b", "e"), ("write", "a", "f"), ("read", "a", "zz"), ("read", "c", "top"), ("read", "a", "q"),
                   ("done", "a")]
        self.assertEqual(spread(history, rules), [
            ("read", "a", "e"), ("read", "a", "f"), ("read", "a", "g"), ("read", "b", "e"), ("write", "a", "f"), ("read", "a", "zz"),
            ("read", "a", "f"), ("read", "a", "g"), ("done", "a")])
        self.assertEqual(spread(history=[list(step) for step in history], rules=Rules([])), history)
        self.assertEqual(kinds_of(spread([["done", "a"]], rules)), kinds_of([("done", "a")]))
        with self.assertRaises(MadeWrite) as caught:
            spread([("write", "a", "e"), ("read", "a", "p"), ("write", "a", "q"), ("write", "a", "p")], rules)
        self.assertEqual(caught.exception.index, 2)

    def test_against_the_words(self):
        rings, many_seen = 0, 0
        for seed in range(2000):
            history = drawn(seed)
            self.assertEqual(sources(history), slow_sources(history))
            self.assertEqual(clashes(history), slow_clashes(history))
            orders = slow_orders(history)
            self.assertEqual(order_of(history), orders[0] if orders else None)
            ring = clash_ring(history)
            self.assertEqual(ring is None, bool(orders))
            if ring is not None:
                rings += 1
                self.assertEqual(len(ring), least_ring_size(history))
                self.assertIs(is_clash_ring(history, ring), True)
                self.assertIs(is_clash_ring(history, ring[::-1]), len(ring) == 2)
            for order in permutations(done_in(history)):
                self.assertIs(is_order_of(history, order), list(order) in orders)
            alike = seen_orders(history)
            self.assertEqual(alike, slow_seen_orders(history), seed)
            many_seen += len(alike) > 1
            done = done_in(history)
            told = [source for at, source in sources(history).items() if history[at][1] in done]
            if all([source is None or history[source][1] in done for source in told]):
                self.assertTrue(all([order in alike for order in orders]))
                blind = [at for at, step in enumerate(history) if step[0] == "write" and step[1] in done
                         and ("read",) + step[1:] not in history[:at]]
                if not blind:
                    self.assertEqual(bool(alike), bool(orders))
        self.assertGreater(min(rings, many_seen), 150)

    def test_at_the_limits(self):
        names = "abcdefgh"
        history = [(word, name, relation) for relation in "xyz" for name in names for word in ("read", "write")][:52]
        history += [("done", name) for name in names]
        self.assertEqual(len(history), 56)
        self.assertEqual(order_of(history), list(names))
        self.assertIsNone(clash_ring(history))
        turned = [step for step in history if step != ("read", "a", "z")] + []
        turned.insert(0, ("write", "h", "x"))
        self.assertIsNone(order_of(turned))
        self.assertIs(is_clash_ring(turned, clash_ring(turned)), True)
        six = [step for step in history if step[1] in "abcdef"]
        self.assertEqual(seen_orders(six), [list("abcdef")])


if __name__ == "__main__":
    unittest.main()
