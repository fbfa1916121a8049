"""Points [31], [32], [41]: what follows, heights and steps."""

import unittest

from rulehouse.errors import HasNot, NoFact
from rulehouse.facts import Facts
from rulehouse.following import heights, steps_for, what_follows
from rulehouse.rules import Rules
from tests import brute
from tests.brute import Dice
from tests.odd import facts_of, kinds_of, odd_objects, rules_of

WAY = rules_of("way X Y if e X Y", "way X Z if e X Y, way Y Z")
EDGES = facts_of("e a b", "e b c")
NOT = rules_of("p", "q if not r", "s if not t")
NO_FACTS = odd_objects() + [("p", "X"), ("not", ("p",)), (), "p", 1]


class Following(unittest.TestCase):
    def test_what_follows(self):
        self.assertEqual(what_follows(WAY, EDGES), facts_of("e a b", "e b c", "way a b", "way b c", "way a c"))
        self.assertEqual(what_follows(rules=WAY, facts=Facts([])), Facts([]))
        self.assertEqual(what_follows(Rules([]), EDGES), EDGES)
        self.assertIsInstance(what_follows(WAY, EDGES), Facts)

    def test_heights(self):
        told = heights(WAY, EDGES)
        self.assertEqual(told, {("e", "a", "b"): 0, ("e", "b", "c"): 0, ("way", "a", "b"): 1, ("way", "a", "c"): 2,
                                ("way", "b", "c"): 1})
        self.assertEqual(list(told), what_follows(WAY, EDGES).listed())
        told.clear()
        self.assertEqual(len(heights(rules=WAY, facts=EDGES)), 5)

    def test_rules_without_atoms(self):
        rules = rules_of("p a", "q if unlike 1 2", "r if unlike 1 1", "s X if p X, unlike X b", "p b")
        self.assertEqual(heights(rules, Facts([])), {("p", "a"): 1, ("p", "b"): 1, ("q",): 1, ("s", "a"): 2})
        self.assertEqual(heights(rules, facts_of("p a")), {("p", "a"): 0, ("p", "b"): 1, ("q",): 1, ("s", "a"): 1})

    def test_facts_that_are_given_and_made(self):
        self.assertEqual(heights(WAY, facts_of("e a b", "way a b"))[("way", "a", "b")], 0)

    def test_other_numbers_of_places(self):
        self.assertEqual(what_follows(WAY, facts_of("e a", "e a b c", "way")), facts_of("e a", "e a b c", "way"))

    def test_has_not(self):
        for call in (what_follows, heights, lambda rules, facts: steps_for(rules, facts, None)):
            with self.assertRaises(HasNot) as caught:
                call(NOT, EDGES)
            self.assertEqual(caught.exception.index, 1)

    def test_against_the_words(self):
        for seed in range(250):
            rules, facts = Dice(seed).program(seed % 6)
            found = brute.rounds(rules, facts)
            self.assertEqual(what_follows(Rules(rules), Facts(facts)), Facts(list(found[-1])))
            told = heights(Rules(rules), Facts(facts))
            self.assertEqual(list(told), Facts(list(found[-1])).listed())
            for fact, height in told.items():
                self.assertEqual(height, [fact in have for have in found].index(True))


class Steps(unittest.TestCase):
    def test_steps_for(self):
        self.assertEqual(steps_for(WAY, EDGES, ("way", "a", "c")), [(1, (("e", "a", "b"), ("way", "b", "c")))])
        self.assertEqual(steps_for(rules=WAY, facts=EDGES, fact=["way", "b", "c"]), [(0, (("e", "b", "c"),))])
        self.assertEqual(steps_for(WAY, EDGES, ("e", "a", "b")), [])
        self.assertEqual(steps_for(WAY, EDGES, ("zz", 1)), [])
        self.assertEqual((steps_for(WAY, EDGES, ("way", "a")), steps_for(WAY, EDGES, ("way", "a", "c", "d"))), ([], []))

    def test_their_order(self):
        rules = rules_of("p if unlike Y a, q X, q Y", "p", "p if q 1, q 1", "p if unlike 1 1")
        self.assertEqual(steps_for(rules, facts_of("q 1", "q a", "q 0"), ("p",)), [
            (0, (("q", 0), ("q", 0))), (0, (("q", 1), ("q", 0))), (0, (("q", "a"), ("q", 0))),
            (0, (("q", 0), ("q", 1))), (0, (("q", 1), ("q", 1))), (0, (("q", "a"), ("q", 1))),
            (1, ()), (2, (("q", 1), ("q", 1)))])

    def test_a_fact_that_is_given_or_needs_itself_has_steps_too(self):
        rules = rules_of("p if p", "q if p")
        self.assertEqual(steps_for(rules, facts_of("p"), ("p",)), [(0, (("p",),))])
        self.assertEqual(steps_for(rules, Facts([]), ("p",)), [])

    def test_kinds(self):
        self.assertEqual(kinds_of(steps_for(WAY, EDGES, ["way", "a", "b"])), kinds_of([(0, (("e", "a", "b"),))]))

    def test_no_fact(self):
        for thing in NO_FACTS:
            with self.assertRaises(NoFact) as caught:
                steps_for(WAY, EDGES, thing)
            self.assertIs(caught.exception.thing, thing)

    def test_against_the_words(self):
        for seed in range(120):
            rules, facts = Dice(seed).program(seed % 6)
            every = brute.steps(rules, facts)
            for fact in brute.follows(rules, facts):
                slow = [(number, below) for head, number, below in every if head == fact]
                told = steps_for(Rules(rules), Facts(facts), fact)
                self.assertEqual(len(told), len(slow))
                self.assertEqual(sorted(told, key=str), sorted(slow, key=str))
                self.assertEqual([number for number, below in told], sorted([number for number, below in slow]))


class Limits(unittest.TestCase):
    def test_a_thousand_facts(self):
        facts = Facts([("e", n, n + 1) for n in range(42)])
        self.assertEqual(len(what_follows(WAY, facts)), 42 + 42 * 43 // 2)
        self.assertEqual(heights(WAY, facts)[("way", 0, 42)], 42)

    def test_six_thousand_steps(self):
        rules = rules_of("t X Z if t X Y, t Y Z")
        facts = Facts([("t", n, n + 1) for n in range(32)])
        told = what_follows(rules, facts)
        self.assertEqual(len(told), 32 * 33 // 2)
        self.assertEqual(len(steps_for(rules, facts, ("t", 0, 32))), 31)

    def test_a_high_tower(self):
        rules = rules_of("q Y if q X, next X Y", "r X if q X", "s X if r X", "u X if s X")
        facts = Facts([("next", n, n + 1) for n in range(190)] + [("q", 0)])
        self.assertEqual(heights(rules, facts)[("u", 190)], 193)


if __name__ == "__main__":
    unittest.main()
