"""Points [44], [45], [51]: levels, rings through nots, and what comes level by level."""

import unittest
from itertools import product

from rulehouse.errors import RingThroughNot
from rulehouse.facts import Facts
from rulehouse.following import what_follows
from rulehouse.levels import by_levels, is_not_ring, levels, ring_through_not
from rulehouse.rules import Rules
from tests import brute
from tests.brute import Dice
from tests.odd import facts_of, kinds_of, odd_objects, rules_of

RING = rules_of("a if b, unlike 1 2, not c", "c if a, d", "d if not e", "b if b")


def links_of(rules):
    return {(number, index): (head[0], part[1][0] if part[0] == "not" else part[0], part[0] == "not")
            for number, (head, body) in enumerate(rules.listed()) for index, part in enumerate(body)
            if part[0] != "unlike"}


def is_ring(links, ring):
    told = [links[link] for link in ring]
    return bool(told) and any([link[2] for link in told]) and all(
        [told[index - 1][1] == told[index][0] for index in range(len(told))])


def least_ring(links, most):
    """The least number of links of a not ring, up to some."""
    for many in range(1, most + 1):
        if any([is_ring(links, ring) for ring in product(links, repeat=many)]):
            return many
    return None


def slow_levels(rules):
    """The least levels, by trying: raised one by one till all holds, None if they rise too far."""
    links = links_of(rules)
    found = {}
    for head, body in rules.listed():
        for part in [head] + [part for part in body if part[0] != "unlike"]:
            found[part[1][0] if part[0] == "not" else part[0]] = 0
    while max(found.values(), default=0) <= len(found):
        low = [one for one, other, is_not in links.values() if found[one] < found[other] + is_not]
        if not low:
            return found
        found[low[0]] += 1
    return None


class Levels(unittest.TestCase):
    def test_levels(self):
        rules = rules_of("p X if e X Y, not q Y", "q X if f X, not s X", "t if not p a, not e a a", "u if t, p a", "p X if p X")
        told = levels(rules)
        self.assertEqual(told, {"e": 0, "f": 0, "p": 2, "q": 1, "s": 0, "t": 3, "u": 3})
        self.assertEqual(list(told), sorted(told))
        told.clear()
        self.assertEqual(len(levels(rules=rules)), 7)
        self.assertEqual((levels(Rules([])), levels(rules_of("p if unlike 1 2"))), ({}, {"p": 0}))
        self.assertIsNone(levels(RING))

    def test_ring_through_not(self):
        self.assertEqual(ring_through_not(rules=RING), [(0, 2), (1, 0)])
        self.assertEqual(ring_through_not(rules_of("p if q", "p if q, unlike 1 2, not p")), [(1, 2)])
        self.assertIsNone(ring_through_not(rules_of("p if p", "q if not p")))
        self.assertIsNone(ring_through_not(Rules([])))
        self.assertEqual(kinds_of(ring_through_not(RING)), kinds_of([(0, 2), (1, 0)]))

    def test_is_not_ring(self):
        for thing in ([(0, 2), (1, 0)], ((1, 0), (0, 2)), [[0, 2], [1, 0]], [(0, 2), (1, 0), (0, 2), (1, 0)],
                      [(1, 0), (0, 2), (1, 0), (0, 2)]):
            self.assertIs(is_not_ring(RING, thing), True, thing)
        for thing in odd_objects() + [
                [], (), [(0, 2)], [(1, 0), (0, 0)], [(3, 0)], [(0, 1)], [(0, 2), (1, 0), (0, 2)], [(0, 2), (1, 3)],
                [(0, 2), (True, 0)], [(0, 2), (1, False)], [(0, 2), (1, None)], [(0, 2), (9, 0)], [(0, 2), (-3, 0)],
                [(0, -1), (1, 0)], [(0, 2, 0), (1, 0)], [(0, 2), "10"], {(0, 2): 1, (1, 0): 1}, [("0", 2), (1, 0)]]:
            self.assertIs(is_not_ring(rules=RING, thing=thing), False, thing)

    def test_just_one_of_both(self):
        names = {name: 0 for name in "abcd"}
        for seed in range(250):
            dice = Dice(seed)
            rules = Rules([dice.rule(2, names, names, "X", [1], ("not", "unlike")) for _ in range(seed % 7)])
            ring = ring_through_not(rules)
            told = levels(rules)
            self.assertNotEqual(ring is None, told is None)
            self.assertEqual(told, slow_levels(rules))
            self.assertEqual(least_ring(links_of(rules), 3), len(ring) if ring and len(ring) <= 3 else None)
            if ring is not None:
                self.assertTrue(is_not_ring(rules, ring) and is_ring(links_of(rules), ring))
                self.assertEqual(ring, ring_through_not(Rules(tuple(rules.listed()))))
            for other in product(list(links_of(rules))[:5], repeat=2):
                self.assertIs(is_not_ring(rules, other), is_ring(links_of(rules), other))


def slow_by_levels(rules, facts):
    levelled = levels(Rules(rules))
    found = set(facts)
    for level in range(max(levelled.values(), default=-1) + 1):
        found = brute.follows([rule for rule in rules if levelled[rule[0][0]] == level], found)
    return found


class ByLevels(unittest.TestCase):
    def test_by_levels(self):
        rules = rules_of("reach X if start X", "reach Y if reach X, e X Y", "apart X if node X, not reach X",
                         "whole if not bad", "bad if apart X")
        facts = facts_of("start a", "e a b", "e c c", "node a", "node b", "node c")
        self.assertEqual(by_levels(rules, facts), facts | facts_of("reach a", "reach b", "apart c", "bad"))
        self.assertEqual(by_levels(rules=rules, facts=facts_of("start a")), facts_of("start a", "reach a", "whole"))
        self.assertEqual(by_levels(Rules([]), facts), facts)
        self.assertEqual(by_levels(rules_of("p if not q"), facts_of("q")), facts_of("q"))
        self.assertEqual(by_levels(rules_of("p if not q", "q if unlike 1 1"), Facts([])), facts_of("p"))

    def test_ring(self):
        with self.assertRaises(RingThroughNot) as caught:
            by_levels(RING, Facts([]))
        self.assertEqual(caught.exception.ring, ring_through_not(RING))

    def test_without_nots_it_is_what_follows(self):
        for seed in range(60):
            rules, facts = Dice(seed).program(seed % 6)
            self.assertEqual(by_levels(Rules(rules), Facts(facts)), what_follows(Rules(rules), Facts(facts)))

    def test_against_the_words(self):
        tried = 0
        for seed in range(400):
            rules, facts = Dice(seed).program(seed % 5, ("not", "unlike"))
            if levels(Rules(rules)) is not None:
                tried += 1
                self.assertEqual(by_levels(Rules(rules), Facts(facts)), Facts(list(slow_by_levels(rules, facts))))
        self.assertGreater(tried, 100)


if __name__ == "__main__":
    unittest.main()
