"""Points [34], [41]: worlds."""

import unittest
from itertools import combinations

from rulehouse.errors import HasNot, NoFact
from rulehouse.facts import Facts
from rulehouse.rules import Rules
from rulehouse.trees import tree_of
from rulehouse.worlds import is_world, world_without, worlds_within
from tests import brute
from tests.brute import Dice
from tests.odd import facts_of, kinds_of, odd_objects, rules_of
from tests.test_following import NO_FACTS

WAY = rules_of("way X Y if e X Y", "way X Z if e X Y, way Y Z")
EDGES = facts_of("e a b", "e b c")
ALL = facts_of("e a b", "e b c", "way a b", "way b c", "way a c")
NOT = rules_of("p", "q if not r", "s if not t")


class Worlds(unittest.TestCase):
    def test_is_world(self):
        self.assertIs(is_world(WAY, EDGES, ALL), True)
        self.assertIs(is_world(rules=WAY, facts=EDGES, thing=ALL | facts_of("way z z", "x")), True)
        for thing in odd_objects() + [ALL - facts_of("way a c"), ALL - EDGES, EDGES, ALL.listed(), ALL | facts_of("e c a")]:
            self.assertIs(is_world(WAY, EDGES, thing), False, thing)
        self.assertIs(is_world(Rules([]), Facts([]), Facts([])), True)
        self.assertIs(is_world(rules_of("p"), Facts([]), Facts([])), False)

    def test_world_without(self):
        self.assertEqual(world_without(WAY, EDGES, ("way", "c", "a")), ALL)
        self.assertEqual(world_without(rules=WAY, facts=EDGES, fact=["zz"]), ALL)
        self.assertIsNone(world_without(WAY, EDGES, ["way", "a", "c"]))
        self.assertIsNone(world_without(WAY, EDGES, ("e", "a", "b")))

    def test_worlds_within(self):
        rules = rules_of("p if q", "r if p, s")
        most = facts_of("p", "q", "r", "s")
        told = worlds_within(rules, Facts([]), most)
        self.assertEqual(told, [Facts([]), facts_of("p"), facts_of("r"), facts_of("s"), facts_of("p", "q"),
                                facts_of("p", "r"), facts_of("r", "s"), facts_of("p", "q", "r"), facts_of("p", "r", "s"),
                                most])
        self.assertEqual(worlds_within(rules=rules, facts=facts_of("q"), most=facts_of("q", "s")), [])
        self.assertEqual(worlds_within(rules, facts_of("q"), facts_of("p", "q", "s")), [facts_of("p", "q")])
        self.assertEqual(worlds_within(rules, facts_of("q"), facts_of("p")), [])
        self.assertEqual(worlds_within(Rules([]), Facts([]), Facts([])), [Facts([])])
        self.assertEqual(kinds_of(told)[0], "list")

    def test_errors(self):
        for call in (is_world, world_without, worlds_within):
            with self.assertRaises(HasNot) as caught:
                call(NOT, EDGES, ALL)
            self.assertEqual(caught.exception.index, 1)
        for thing in NO_FACTS:
            with self.assertRaises(NoFact) as caught:
                world_without(WAY, EDGES, thing)
            self.assertIs(caught.exception.thing, thing)
        self.assertRaises(HasNot, world_without, NOT, EDGES, None)

    def test_against_the_words(self):
        for seed in range(150):
            dice = Dice(seed)
            rules, facts = dice.program(seed % 5)
            made, given = Rules(rules), Facts(facts)
            standing = brute.follows(rules, facts)
            relations = {"p": 1, "q": 2, "r": 1, "e": 2}
            more = dice.facts(5, relations, ["a", "b", 3])
            most = Facts(list(standing) + more) if seed % 3 else Facts(facts + more)
            slow = []
            rest = [fact for fact in most.listed() if fact not in standing]
            for many in range(len(rest) + 1):
                for some in combinations(rest, many):
                    world = set(some) | standing
                    if world <= set(most.listed()) and brute.heads(rules, world) <= world:
                        slow.append(Facts(list(world)))
            slow.sort(key=lambda world: (len(world), [brute.atom_rank(fact) for fact in world.listed()]))
            self.assertEqual(worlds_within(made, given, most), slow)
            self.assertTrue(all([is_world(made, given, world) for world in slow]))
            for fact in list(standing)[:3] + more:
                world = world_without(made, given, fact)
                self.assertNotEqual(world is None, tree_of(made, given, fact) is None)
                if world is not None:
                    self.assertTrue(is_world(made, given, world) and fact not in world)
                    self.assertEqual(len(world), len(standing))


class Limits(unittest.TestCase):
    def test_ten_facts_that_do_not_follow(self):
        facts = Facts([("e", n, n + 1) for n in range(20)])
        most = Facts([("e", n, n + 1) for n in range(20)] + [("way", n, m) for n in range(20) for m in range(n + 1, 21)]
                     + [("x", n) for n in range(10)])
        self.assertEqual(len(worlds_within(WAY, facts, most)), 2 ** 10)


if __name__ == "__main__":
    unittest.main()
