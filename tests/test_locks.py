"""Points [118], [122], [123]: locks, turn by turn, ways to stick, and all states that are calm."""

import random
import unittest
from itertools import product

from rulehouse.errors import BadPlan, Ended, NoDealing
from rulehouse.histories import is_order_of, order_of
from rulehouse.locks import Locks, are_calm, calm_states, way_to_stick
from tests.odd import kinds_of, odd_objects

CROSS = {"b": [("read", "y"), ("write", "x")], "a": [("read", "x"), ("write", "y")]}
READS = {"a": [("read", "x"), ("write", "z")], "b": [("read", "x"), ("read", "y")]}
NO_PLANS = [("a", []), ("a", [("read",)]), ("a", [("read", "X")]), ("a", ("read", "x")), ("a", [("done", "x")]), ("a", "read"), ("a", None),
            ("a", [("read", "x"), ("write", "x", 1)]), ("A", [("read", "x")]), (1, [("read", "x")]), ("not", [("read", "x")]),
            (None, [("read", "x")]), (("a",), [("read", "x")]), ("a", {("read", "x"): 1}), ("a", [["read", ["x"]]]), ("a", [None])]


class Slow:
    """Locks by the words."""

    def __init__(self, plan):
        self.plan = plan
        self.names = sorted(plan)
        self.many = {name: 0 for name in plan}

    def state(self):
        return tuple([self.many[name] for name in self.names])

    def is_done(self, name):
        return self.many[name] == len(self.plan[name])

    def held(self, name):
        done = [] if self.is_done(name) else self.plan[name][:self.many[name]]
        return {relation: "full" if ("write", relation) in [tuple(work) for work in done] else "shared"
                for relation in sorted({relation for word, relation in done})}

    def waits(self, name):
        if self.is_done(name):
            return []
        word, relation = self.plan[name][self.many[name]]
        return [other for other in self.names if other != name and relation in self.held(other)
                and (word == "write" or self.held(other)[relation] == "full")]

    def sticks(self):
        for start in self.names:
            reached, left = set(), list(self.waits(start))
            while left:
                name = left.pop()
                if name not in reached:
                    reached.add(name)
                    left.extend(self.waits(name))
            if start in reached:
                return True
        return False

    def at(self, state):
        self.many = dict(zip(self.names, state))
        return self

    def nexts(self):
        here = self.state()
        found = []
        for index, name in enumerate(self.names):
            if not self.is_done(name) and not self.waits(name):
                found.append((name, here[:index] + (here[index] + 1,) + here[index + 1:]))
        return found


def reached(plan):
    """All states that can be come to, with the least ways there; looked for way by way."""
    slow = Slow(plan)
    found = {slow.state(): []}
    left = [slow.state()]
    while left:
        here = left.pop(0)
        for name, later in slow.at(here).nexts():
            way = found[here] + [name]
            if later not in found or (len(way), way) < (len(found[later]), found[later]):
                found[later] = way
                left.append(later)
    return found


def drawn(seed):
    dice = random.Random(seed)
    relations = "xyz"[:1 + seed % 3]
    return {name: [(dice.choice(("read", "write")), dice.choice(relations)) for _ in range(dice.randint(1, 3))]
            for name in dice.sample("abcd", 1 + seed % 4 if seed % 8 else 2)}


class Turns(unittest.TestCase):
    def test_turns(self):
        locks = Locks(plan=CROSS)
        self.assertEqual((locks.state(), locks.held_by("a"), locks.waits_for("a"), locks.done_so_far()), ((0, 0), {}, [], []))
        self.assertIs(locks.turn("a"), True)
        self.assertIs(locks.turn(dealing="b"), True)
        self.assertEqual((locks.held_by(dealing="a"), locks.held_by("b")), ({"x": "shared"}, {"y": "shared"}))
        self.assertIs(locks.turn("a"), False)
        self.assertEqual((locks.state(), locks.waits_for(dealing="a"), locks.waits_for("b")), ((1, 1), ["b"], ["a"]))
        self.assertEqual(locks.done_so_far(), [("read", "a", "x"), ("read", "b", "y")])
        self.assertIs(locks.undo(), True)
        self.assertIs(locks.turn("a"), True)
        self.assertEqual(locks.done_so_far(), [("read", "a", "x"), ("write", "a", "y"), ("done", "a")])
        self.assertEqual((locks.held_by("a"), locks.waits_for("a"), locks.state()), ({}, [], (2, 0)))
        self.assertTrue(locks.turn("b") and locks.turn("b"))
        self.assertEqual(locks.done_so_far()[3:], [("read", "b", "y"), ("write", "b", "x"), ("done", "b")])
        self.assertEqual([locks.undo() for _ in range(5)], [True] * 4 + [False])
        self.assertEqual((locks.state(), locks.done_so_far()), ((0, 0), []))

    def test_what_is_held(self):
        locks = Locks({"a": [("write", "y"), ("read", "y"), ("read", "x"), ("write", "x"), ("read", "z")], "b": [("read", "x"), ("read", "y")]})
        told = []
        for _ in range(4):
            locks.turn("a")
            told.append(locks.held_by("a"))
        self.assertEqual(told, [{"y": "full"}, {"y": "full"}, {"x": "shared", "y": "full"}, {"x": "full", "y": "full"}])
        self.assertEqual([list(one) for one in told], [["y"], ["y"], ["x", "y"], ["x", "y"]])
        self.assertEqual(locks.waits_for("b"), ["a"])
        self.assertIs(locks.turn("b"), False)
        locks.turn("a")
        self.assertEqual((locks.held_by("a"), locks.waits_for("b")), ({}, []))

    def test_waiting_for_several(self):
        locks = Locks({"c": [("write", "x")], "a": [("read", "x"), ("read", "y")], "b": [("read", "x"), ("write", "x")]})
        self.assertTrue(locks.turn("b") and locks.turn("a"))
        self.assertEqual([locks.waits_for(name) for name in "abc"], [[], ["a"], ["a", "b"]])
        self.assertTrue(locks.turn("a"))
        self.assertEqual([locks.waits_for(name) for name in "abc"], [[], [], ["b"]])
        self.assertEqual(kinds_of(locks.waits_for("c")), kinds_of(["b"]))

    def test_returned_things_are_new(self):
        locks = Locks(CROSS)
        locks.turn("a")
        locks.held_by("a").clear()
        locks.done_so_far().clear()
        locks.waits_for("a").append("zz")
        self.assertEqual((locks.held_by("a"), locks.done_so_far(), locks.waits_for("a")), ({"x": "shared"}, [("read", "a", "x")], []))
        self.assertEqual(kinds_of(locks.done_so_far()), kinds_of([("read", "a", "x")]))
        plan = {"a": [["read", "x"], ["read", "y"]]}
        locks = Locks(plan)
        plan["a"][1][1] = "zz"
        plan["b"] = [("read", "x")]
        self.assertTrue(locks.turn("a") and locks.turn("a"))
        self.assertEqual((locks.state(), locks.done_so_far()[1]), ((2,), ("read", "a", "y")))

    def test_errors(self):
        locks = Locks(READS)
        for thing in odd_objects() + ["c", "x", 0, ("a",)]:
            for call in (locks.turn, locks.held_by, locks.waits_for):
                with self.assertRaises(NoDealing) as caught:
                    call(thing)
                self.assertIs(caught.exception.name, thing)
        locks.turn("b")
        locks.turn("b")
        with self.assertRaises(Ended) as caught:
            locks.turn("b")
        self.assertEqual(caught.exception.name, "b")
        self.assertEqual((locks.state(), len(locks.done_so_far())), ((0, 2), 3))
        for call in (Locks, way_to_stick, calm_states, lambda told: are_calm(told, None)):
            for thing in [thing for thing in odd_objects() if not isinstance(thing, dict)] + [{}, [("a", [("read", "x")])]]:
                with self.assertRaises(BadPlan) as caught:
                    call(thing)
                self.assertIs(caught.exception.thing, thing)
            for key, works in NO_PLANS:
                with self.assertRaises(BadPlan) as caught:
                    call({"b": [("read", "x")], key: works, "B": None})
                self.assertIs(caught.exception.thing, key)

    def test_against_the_words(self):
        for seed in range(600):
            plan = drawn(seed)
            locks, slow = Locks(plan), Slow(plan)
            dice = random.Random(seed)
            turns = []
            for _ in range(14):
                left = [name for name in sorted(plan) if not slow.is_done(name)]
                if not left:
                    break
                if turns and dice.random() < 0.15:
                    slow.many[turns.pop()] -= 1
                    self.assertTrue(locks.undo())
                    continue
                name = dice.choice(left)
                is_free = not slow.waits(name)
                self.assertIs(locks.turn(name), is_free)
                if is_free:
                    turns.append(name)
                    slow.many[name] += 1
                self.assertEqual(locks.state(), slow.state())
                for other in plan:
                    self.assertEqual(locks.held_by(other), slow.held(other))
                    self.assertEqual(list(locks.held_by(other)), sorted(slow.held(other)))
                    self.assertEqual(locks.waits_for(other), slow.waits(other))
            history = locks.done_so_far()
            self.assertEqual([step[1] for step in history if len(step) == 3], turns)
            self.assertEqual(is_order_of(history, [step[1] for step in history if step[0] == "done"]), True)
            self.assertIsNotNone(order_of(history))


class AllTurns(unittest.TestCase):
    def test_ways_to_stick(self):
        self.assertEqual(way_to_stick(CROSS), ["a", "b"])
        self.assertIsNone(calm_states(CROSS))
        self.assertIsNone(way_to_stick(READS))
        self.assertEqual(calm_states(plan=READS), [(0, 0), (0, 1), (0, 2), (1, 0), (1, 1), (1, 2), (2, 0), (2, 1), (2, 2)])
        self.assertEqual(calm_states({"a": (("write", "x"),)}), [(0,), (1,)])
        both = {"a": [("read", "x"), ("write", "x")], "b": [("read", "x"), ("write", "x")]}
        self.assertEqual(way_to_stick(plan=both), ["a", "b"])
        self.assertEqual(kinds_of(calm_states(READS)[:1]), kinds_of([(0, 0)]))
        # One that waits for one that waits, but not round, is calm.
        self.assertIsNone(way_to_stick({"a": [("write", "x"), ("read", "y")], "b": [("read", "x"), ("read", "z")], "c": [("write", "x")]}))

    def test_tests(self):
        told = calm_states(READS)
        for thing in (told, tuple(told), [list(state) for state in told], told[::-1], told + told[:1]):
            self.assertIs(are_calm(plan=READS, thing=thing), True)
        for thing in odd_objects() + [told[1:], told[:-1], told + [(3, 0)], told + [(-1, 0)], told + [(0, 0, 0)], told + [(0,)], told + [None],
                                      told + [(True, 0)], told + ["ab"], {state: True for state in told}, [(0, 0)], told + [(0, None)],
                                      told[:3], told + [{0: 0, 1: 0}]]:
            self.assertIs(are_calm(READS, thing), False, thing)
        every = list(product(range(3), repeat=2))
        self.assertIs(are_calm(CROSS, every), False)
        self.assertIs(are_calm(CROSS, [state for state in every if state != (1, 1)]), False)
        # States that nobody comes to are let, as far as they are closed and calm.
        alone = {"a": [("write", "x"), ("read", "y")], "b": [("write", "x"), ("read", "z")]}
        self.assertEqual(calm_states(alone), [(0, 0), (0, 1), (0, 2), (1, 0), (1, 2), (2, 0), (2, 1), (2, 2)])
        self.assertIs(are_calm(alone, list(product(range(3), repeat=2))), True)
        self.assertIs(are_calm(alone, calm_states(alone) + [(1, 1)]), True)

    def test_against_the_words(self):
        stuck = 0
        for seed in range(500):
            plan = drawn(seed)
            found = reached(plan)
            ways = sorted([(len(way), way) for state, way in found.items() if Slow(plan).at(state).sticks()])
            self.assertEqual(way_to_stick(plan), ways[0][1] if ways else None, seed)
            self.assertEqual(calm_states(plan), None if ways else sorted(found))
            self.assertIs(are_calm(plan, sorted(found)), not ways)
            stuck += bool(ways)
            dice = random.Random(seed)
            some = [state for state in found if dice.random() < 0.9]
            slow = tuple([0] * len(plan)) in some and not any([Slow(plan).at(state).sticks() for state in some]) and all(
                [later in some for state in some for name, later in Slow(plan).at(state).nexts()])
            self.assertIs(are_calm(plan, some), slow)
        self.assertGreater(stuck, 40)

    def test_where_none_sticks_all_come_to_be_done(self):
        for seed in range(200):
            plan = drawn(seed)
            if way_to_stick(plan) is None:
                locks, dice = Locks(plan), random.Random(seed)
                for _ in range(30):
                    left = [name for index, name in enumerate(sorted(plan)) if locks.state()[index] < len(plan[name])]
                    free = [name for name in left if not locks.waits_for(name)]
                    self.assertEqual(bool(free), bool(left))
                    if free:
                        self.assertTrue(locks.turn(dice.choice(free)))
                self.assertEqual(locks.state(), tuple([len(plan[name]) for name in sorted(plan)]))

    def test_at_the_limits(self):
        plan = {name: [("read" if at % 2 else "write", relation + name) for at, relation in enumerate("abcdef")] for name in "wxyz"}
        told = calm_states(plan)
        self.assertEqual(len(told), 7 ** 4)
        self.assertIs(are_calm(plan, told), True)
        plan = {name: [("read", relation) for relation in "abcde"] + [("write", name)] for name in "abcd"}
        self.assertIsNotNone(way_to_stick(plan))


if __name__ == "__main__":
    unittest.main()
