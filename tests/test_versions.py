"""Points [118], [124]: dealings that see what was there when they began."""

import random
import unittest
from itertools import permutations

from rulehouse.errors import BadPlan, BadTimes
from rulehouse.versions import outcome, straight, ties, twist
from tests.odd import kinds_of, odd_objects
from tests.test_locks import CROSS, NO_PLANS

TIMES = [("begin", "a"), ("begin", "b"), ("end", "a"), ("end", "b")]
NO_TIMES = [("begin", "c"), ("end", "b"), ("begin", "a"), ("begin",), ("begin", "a", "b"), ("Begin", "b"), ("start", "b"), ("begin", None),
            ("begin", ["b"]), (None, "b"), "ab", {"begin": "b"}, (("begin",), "b")]


def slow_outcome(plan, times):
    places = {tuple(time): index for index, time in enumerate(times)}
    found = {}
    for word, name in times:
        if word == "end":
            mine = {relation for told, relation in plan[name] if told == "write"}
            rivals = [other for other in found if found[other] == "done" and places[("end", other)] > places[("begin", name)]
                      and mine & {relation for told, relation in plan[other] if told == "write"}]
            found[name] = "refused" if rivals else "done"
    return found


def is_seen(works, relation):
    """Whether works read a relation, at some read not having written it ahead."""
    return any([work == ("read", relation) and ("write", relation) not in works[:at] for at, work in enumerate(works)])


def slow_ties(plan, times):
    places = {tuple(time): index for index, time in enumerate(times)}
    plan = {name: [tuple(work) for work in works] for name, works in plan.items()}
    done = [name for name, word in slow_outcome(plan, times).items() if word == "done"]
    found = []
    for relation in "wxyz":
        writers = [name for name in done if ("write", relation) in plan[name]]
        for one, other in permutations(done, 2):
            if one in writers and other in writers and places[("end", one)] < places[("end", other)]:
                found.append((one, other, "write", relation))
            if is_seen(plan[other], relation):
                ahead = [name for name in writers if places[("end", name)] < places[("begin", other)]]
                if ahead and max(ahead, key=lambda name: places[("end", name)]) == one:
                    found.append((one, other, "read", relation))
            if is_seen(plan[one], relation) and other in writers and places[("end", other)] > places[("begin", one)]:
                found.append((one, other, "miss", relation))
    return sorted(found), sorted(done)


def drawn(seed):
    dice = random.Random(seed)
    relations = "xyz"[:1 + seed % 3]
    plan = {name: [(dice.choice(("read", "read", "write")), dice.choice(relations)) for _ in range(dice.randint(1, 3))]
            for name in dice.sample("abcd", 2 + seed % 3)}
    times = [("begin", name) for name in plan for _ in range(2)]
    dice.shuffle(times)
    begun = []
    for index, (word, name) in enumerate(times):
        if name in begun:
            times[index] = ("end", name)
        begun.append(name)
    return plan, times


class Versions(unittest.TestCase):
    def test_two_that_miss_one_another(self):
        self.assertEqual(outcome(CROSS, TIMES), {"a": "done", "b": "done"})
        self.assertEqual(ties(plan=CROSS, times=TIMES), [("a", "b", "miss", "x"), ("b", "a", "miss", "y")])
        self.assertIsNone(straight(CROSS, TIMES))
        self.assertEqual(sorted(twist(plan=CROSS, times=TIMES)), ties(CROSS, TIMES))
        self.assertEqual(twist(CROSS, TIMES), twist(CROSS, [list(time) for time in TIMES]))
        later = [TIMES[0], TIMES[2], TIMES[1], TIMES[3]]
        self.assertEqual(ties(CROSS, later), [("a", "b", "miss", "x"), ("a", "b", "read", "y")])
        self.assertEqual(straight(plan=CROSS, times=later), ["a", "b"])
        self.assertIsNone(twist(CROSS, later))
        self.assertEqual(kinds_of(ties(CROSS, TIMES)[:1]), kinds_of([("a", "b", "miss", "x")]))

    def test_the_first_that_ends_wins(self):
        plan = {"a": [("write", "x")], "b": [("write", "x"), ("write", "y")], "c": [("write", "y")]}
        times = [("begin", "a"), ("begin", "b"), ("begin", "c"), ("end", "a"), ("end", "b"), ("end", "c")]
        told = outcome(plan=plan, times=times)
        self.assertEqual(list(told.items()), [("a", "done"), ("b", "refused"), ("c", "done")])
        self.assertEqual((ties(plan, times), straight(plan, times), twist(plan, times)), ([], ["a", "c"], None))
        times = [("begin", "b"), ("end", "b"), ("begin", "c"), ("begin", "a"), ("end", "c"), ("end", "a")]
        self.assertEqual(list(outcome(plan, times)), ["b", "c", "a"])
        self.assertEqual(ties(plan, times), [("b", "a", "write", "x"), ("b", "c", "write", "y")])
        self.assertEqual(straight(plan, times), ["b", "a", "c"])

    def test_what_one_wrote_itself_it_reads(self):
        plan = {"a": [("write", "x")], "b": [("write", "x"), ("read", "x")]}
        times = [("begin", "a"), ("end", "a"), ("begin", "b"), ("end", "b")]
        self.assertEqual(ties(plan, times), [("a", "b", "write", "x")])
        plan["b"] = [("read", "x"), ("write", "x"), ("read", "x")]
        self.assertEqual(ties(plan, times), [("a", "b", "read", "x"), ("a", "b", "write", "x")])
        # A dealing makes no tie with itself.
        self.assertEqual(ties({"b": [("read", "x"), ("write", "x")]}, [("begin", "b"), ("end", "b")]), [])

    def test_errors(self):
        for call in (outcome, ties, straight, twist):
            for thing in [thing for thing in odd_objects() if not isinstance(thing, dict)] + [{}]:
                with self.assertRaises(BadPlan) as caught:
                    call(thing, None)
                self.assertIs(caught.exception.thing, thing)
            for key, works in NO_PLANS:
                with self.assertRaises(BadPlan) as caught:
                    call({"b": [("read", "x")], key: works}, None)
                self.assertIs(caught.exception.thing, key)
            for thing in odd_objects() + NO_TIMES:
                with self.assertRaises(BadTimes) as caught:
                    call(CROSS, [("begin", "a"), thing, None])
                self.assertEqual(caught.exception.index, 1)
            for many in range(4):
                with self.assertRaises(BadTimes) as caught:
                    call(CROSS, TIMES[:many])
                self.assertEqual(caught.exception.index, many)
            for last in TIMES + [("end", "c")]:
                with self.assertRaises(BadTimes) as caught:
                    call(CROSS, TIMES + [last])
                self.assertEqual(caught.exception.index, 4)
            for thing in (None, 3, "ab", {}, True, {("begin", "a"): 1}):
                with self.assertRaises(BadTimes) as caught:
                    call(CROSS, thing)
                self.assertEqual(caught.exception.index, 0)

    def test_against_the_words(self):
        twisted, refused = 0, 0
        for seed in range(1500):
            plan, times = drawn(seed)
            told = outcome(plan, times)
            self.assertEqual(list(told.items()), list(slow_outcome(plan, times).items()))
            refused += "refused" in told.values()
            found, done = slow_ties(plan, times)
            self.assertEqual(ties(plan, times), found, seed)
            orders = [list(order) for order in permutations(done) if all([order.index(tie[0]) < order.index(tie[1]) for tie in found])]
            self.assertEqual(straight(plan, times), orders[0] if orders else None)
            ring = twist(plan, times)
            self.assertEqual(ring is None, bool(orders))
            if ring is not None:
                twisted += 1
                pairs = {tie[:2] for tie in found}
                sizes = [many for many in range(1, len(done) + 1) for some in permutations(done, many)
                         if all([pair in pairs for pair in zip(some, some[1:] + some[:1])])]
                self.assertEqual(len(ring), min(sizes))
                self.assertTrue(set(ring) <= set(found))
                self.assertEqual(len({tie[0] for tie in ring}), len(ring))
                self.assertTrue(all([one[1] == other[0] for one, other in zip(ring, ring[1:] + ring[:1])]))
                self.assertTrue(any([one[2] == other[2] == "miss" for one, other in zip(ring, ring[1:] + ring[:1])]))
        self.assertGreater(min(twisted, refused), 20)

    def test_at_the_limits(self):
        plan = {name: [("read", other) for other in "wxyz" if other != name] + [("write", name)] * 3 for name in "wxyz"}
        times = [("begin", name) for name in "wxyz"] + [("end", name) for name in "wxyz"]
        self.assertEqual(len(ties(plan, times)), 12)
        self.assertEqual(len(twist(plan, times)), 2)


if __name__ == "__main__":
    unittest.main()
