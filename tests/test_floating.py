"""Points [107], [110]: facts that hold one another up."""

import unittest

from rulehouse.errors import BadSome, HasNot
from rulehouse.facts import Facts
from rulehouse.floating import floating, floating_ring, is_floating
from rulehouse.rules import Rules, rings
from tests import brute
from tests.brute import Dice
from tests.odd import facts_of, kinds_of, odd_objects, rules_of
from tests.test_following import NO_FACTS
from tests.test_madeways import slow_ways

WAY = rules_of("way X Y if edge X Y", "way X Z if way X Y, way Y Z", "way X Y if way Y X")
EDGES = facts_of("edge 1 2", "edge 5 6")
ONE = [("edge", 1, 2)]
NOT = rules_of("p", "q if not r")


def slow_left(rules, facts, some):
    rest = set(facts) - set(some)
    left = brute.follows(rules, facts)
    while True:
        fewer = {fact for fact in left if fact in rest or slow_ways(rules, left, fact)}
        if fewer == left:
            return left
        left = fewer


def slow_floating(rules, facts, some):
    return slow_left(rules, facts, some) - brute.follows(rules, set(facts) - set(some))


def leads(rules, left, one, other):
    """Whether the other is a plain fact of a way of the one in what is left."""
    return any([brute.put(atom, calls) == other for number, calls in slow_ways(rules, left, one)
                for atom in brute.plain(rules[number][1])])


def least_ring(rules, left, found):
    """How few facts a ring has, None if there is none."""
    sizes = []
    for start in found:
        reached, size = {start}, 0
        while reached and size <= len(found):
            size += 1
            reached = {other for one in reached for other in found if leads(rules, left, one, other)}
            if start in reached:
                sizes.append(size)
                break
    return min(sizes, default=None)


def drawn(seed):
    rules, facts = Dice(seed).winding()
    facts = sorted(set(facts), key=brute.atom_rank)
    some = Dice(seed).random.sample(facts, min(len(facts), 1 + seed % 3))
    return rules, facts, some


class Floating(unittest.TestCase):
    def test_floating(self):
        ways = facts_of("way 1 1", "way 1 2", "way 2 1", "way 2 2").listed()
        self.assertEqual(floating(rules=WAY, facts=EDGES, some=ONE), ways)
        self.assertEqual(floating(WAY, EDGES, []), [])
        self.assertEqual(floating(WAY, EDGES, ([["edge", 5, 6], ["edge", 1, 2]])), ways + facts_of(
            "way 5 5", "way 5 6", "way 6 5", "way 6 6").listed())
        self.assertEqual(floating_ring(rules=WAY, facts=EDGES, some=ONE), floating_ring(WAY, EDGES, tuple(ONE)))
        self.assertEqual(len(floating_ring(WAY, EDGES, ONE)), 1)
        self.assertIsNone(floating_ring(WAY, EDGES, []))
        self.assertIs(is_floating(rules=WAY, facts=facts_of("edge 5 6"), thing=ways), True)

    def test_a_fact_that_is_given_too_stands(self):
        rules = rules_of("p if q", "q if p", "p if e")
        self.assertEqual(floating(rules, facts_of("e"), [("e",)]), [("p",), ("q",)])
        self.assertEqual(floating(rules, facts_of("e", "q"), [("e",)]), [])
        self.assertEqual(floating(rules, facts_of("e", "q"), [("e",), ("q",)]), [("p",), ("q",)])
        # What is taken, and has a way, may be left.
        self.assertEqual(floating(rules, facts_of("q"), [("q",)]), [("p",), ("q",)])
        self.assertEqual(floating_ring(rules, facts_of("q"), [("q",)]), [("p",), ("q",)])
        self.assertEqual(floating(rules_of("p if q"), facts_of("q"), [("q",)]), [])

    def test_no_rings_without_rings_of_relations(self):
        rules = rules_of("p X if e X", "q X if p X", "r if q X, p X")
        self.assertEqual(rings(rules), [])
        self.assertEqual(floating(rules, facts_of("e 1", "e 2"), [("e", 1)]), [])

    def test_tests(self):
        rules = rules_of("p if q", "q if p", "r if p, e", "s if s", "t if p, zz")
        facts = facts_of("e")
        for thing in ([("p",), ("q",)], (("q",), ["p"]), [["r"], ("p",), ("q",)], [("s",)], [("s",), ("p",), ("q",)]):
            self.assertIs(is_floating(rules, facts, thing), True, thing)
        for thing in odd_objects() + [[("p",)], [("p",), ("q",), ("q",)], [("p",), ("q",), ("e",)], [("r",)], [("p",), ("q",), ("t",)],
                                      [("p",), ("q",), None], [], (), {("s",): 1}, facts_of("s"), [("s", 1)], "s", [("s",), ("S",)]]:
            self.assertIs(is_floating(rules, facts, thing), False, thing)

    def test_errors(self):
        for call in (floating, floating_ring):
            with self.assertRaises(HasNot) as caught:
                call(NOT, EDGES, None)
            self.assertEqual(caught.exception.index, 1)
            for thing in NO_FACTS + odd_objects() + [("edge", 1, 2), ["edge", 1, 2], ("edge", 2, 1), ("way", 1, 2)]:
                with self.assertRaises(BadSome) as caught:
                    call(WAY, EDGES, ONE + [thing])
                self.assertEqual(caught.exception.index, 1)
            for thing in (None, 3, "ab", {}, {("edge", 1, 2): 1}, EDGES):
                with self.assertRaises(BadSome) as caught:
                    call(WAY, EDGES, thing)
                self.assertEqual(caught.exception.index, 0)
        with self.assertRaises(HasNot):
            is_floating(NOT, EDGES, None)

    def test_kinds(self):
        self.assertEqual(kinds_of(floating_ring(WAY, EDGES, ONE)), kinds_of([("way", 1, 1)]))
        self.assertEqual(kinds_of(floating(WAY, EDGES, ONE)[:1]), kinds_of([("way", 1, 1)]))

    def test_against_the_words(self):
        many, long = 0, 0
        for seed in range(1500):
            rules, facts, some = drawn(seed)
            told = floating(Rules(rules), Facts(facts), some)
            found = slow_floating(rules, facts, some)
            self.assertEqual(told, sorted(found, key=brute.atom_rank), seed)
            ring = floating_ring(Rules(rules), Facts(facts), some)
            self.assertEqual(ring is None, not told)
            rest = Facts([fact for fact in facts if fact not in some])
            self.assertIs(is_floating(Rules(rules), rest, told), bool(told))
            if told:
                many += 1
                left = slow_left(rules, facts, some)
                self.assertEqual(len(ring), least_ring(rules, left, found))
                self.assertEqual(len(set(ring)), len(ring))
                self.assertTrue(set(ring) <= found)
                for one, other in zip(ring, ring[1:] + ring[:1]):
                    self.assertTrue(leads(rules, left, one, other))
                long += len(ring) > 1
        self.assertGreater(many, 50)
        self.assertGreater(long, 5)

    def test_each_such_list_of_facts_that_stood_lies_within(self):
        right = 0
        for seed in range(600):
            rules, facts, some = drawn(seed)
            rest = Facts([fact for fact in facts if fact not in some])
            stood = brute.follows(rules, facts)
            found = slow_floating(rules, facts, some)
            dice = Dice(seed)
            for _ in range(4):
                thing = dice.random.sample(sorted(stood, key=str), min(len(stood), dice.random.randint(1, 3)))
                standing = brute.follows(rules, rest.listed())
                slow = bool(thing) and not set(thing) & standing and all(
                    [slow_ways(rules, standing | set(thing), fact) for fact in thing])
                self.assertIs(is_floating(Rules(rules), rest, thing), slow)
                if slow:
                    right += 1
                    self.assertTrue(set(thing) <= found)
        self.assertGreater(right, 20)

    def test_at_the_limits(self):
        rules = rules_of("way X Y if edge X Y", "way X Z if edge X Y, way Y Z", "back X Y if way Y X", "way X Y if back Y X",
                         "both X Y if way X Y, way Y X", "on X if both X Y", "way X X if on X")
        facts = Facts([("edge", at, (at + 1) % 6) for at in range(6)])
        told = floating(rules, facts, facts.listed())
        self.assertEqual(len(told), 36 + 36 + 36 + 6)
        self.assertTrue(is_floating(rules, Facts([]), told))
        self.assertEqual(len(floating_ring(rules, facts, facts.listed())), 2)


if __name__ == "__main__":
    unittest.main()
