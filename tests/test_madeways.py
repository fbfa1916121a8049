"""Point [103]: ways in which facts are made, and matches that are fresh."""

import unittest

from rulehouse.errors import NoFact, NoRule
from rulehouse.facts import Facts
from rulehouse.madeways import fresh_matches, ways
from rulehouse.rules import Rules
from tests import brute
from tests.brute import Dice
from tests.odd import facts_of, kinds_of, odd_objects, rules_of
from tests.test_following import NO_FACTS

RULES = rules_of("p X if e X Y, not f Y", "p X if f X", "p a", "q X Y if e X Y, e Y X, unlike X Y, not p X")
FACTS = facts_of("e a b", "e a c", "e b a", "f b", "p c")


def slow_ways(rules, facts, fact):
    return [(number, calls) for number, (head, body) in enumerate(rules)
            for calls in brute.matches(set(facts), body) if brute.put(head, calls) == fact]


def place_of(body, calls, old):
    return [index for index, part in enumerate(body) if not brute.holds(part, calls, old)][0]


class Ways(unittest.TestCase):
    def test_ways(self):
        self.assertEqual(ways(RULES, FACTS, ("p", "a")), [(0, {"X": "a", "Y": "c"}), (2, {})])
        self.assertEqual(ways(rules=RULES, facts=FACTS, fact=["q", "b", "a"]), [(3, {"X": "b", "Y": "a"})])
        # Just these facts count: what is there need not be made, what is made need not be there.
        self.assertEqual(ways(RULES, FACTS, ("p", "c")), [])
        self.assertEqual(ways(RULES, FACTS, ("p", "b")), [(0, {"X": "b", "Y": "a"}), (1, {"X": "b"})])
        self.assertEqual(ways(RULES, FACTS, ("e", "a", "b")), [])
        self.assertEqual(ways(Rules([]), Facts([]), ("p",)), [])
        self.assertEqual(kinds_of(ways(RULES, FACTS, ("p", "b"))), kinds_of([(0, {"X": "b", "Y": "a"}), (1, {"X": "b"})]))

    def test_rules_through_nots_are_let(self):
        rules = rules_of("p if not p", "p if p")
        self.assertEqual((ways(rules, Facts([]), ("p",)), ways(rules, facts_of("p"), ("p",))), ([(0, {})], [(1, {})]))

    def test_letters_stand_as_in_the_body(self):
        rules = rules_of("p X Y if not g Z Y, e Y X, e X Z")
        (number, match), = ways(rules, facts_of("e 1 2", "e 2 3"), ("p", 2, 1))
        self.assertEqual((number, list(match.items())), (0, [("Z", 3), ("Y", 1), ("X", 2)]))

    def test_no_facts(self):
        for thing in NO_FACTS + odd_objects()[:8]:
            with self.assertRaises(NoFact) as caught:
                ways(RULES, FACTS, thing)
            self.assertIs(caught.exception.thing, thing)

    def test_against_the_words(self):
        many = 0
        for seed in range(400):
            rules, facts = Dice(seed).program(1 + seed % 4, ("not", "unlike"))
            dice = Dice(seed + 1000)
            facts = facts + dice.facts(4, {"p": 1, "q": 2, "r": 1, "e": 2}, ["a", "b", 3])
            for fact in dice.facts(4, {"p": 1, "q": 2, "r": 1}, ["a", "b", 3]):
                told = ways(Rules(rules), Facts(facts), fact)
                slow = slow_ways(rules, facts, fact)
                self.assertEqual(told, sorted(slow, key=lambda way: (way[0], [brute.term_rank(t) for t in way[1].values()])))
                many += len(told) > 1
        self.assertGreater(many, 15)


class Fresh(unittest.TestCase):
    def test_fresh_matches(self):
        old, new = facts_of("e a b", "f b"), facts_of("e a b", "e a c")
        self.assertEqual(fresh_matches(RULES, 0, old, new), [({"X": "a", "Y": "b"}, 1), ({"X": "a", "Y": "c"}, 0)])
        self.assertEqual(fresh_matches(rules=RULES, number=0, old=new, new=new), [])
        self.assertEqual(fresh_matches(RULES, 0, Facts([]), old), [])
        self.assertEqual(fresh_matches(RULES, 2, Facts([]), old), [])
        self.assertEqual(fresh_matches(RULES, 3, Facts([]), facts_of("e 1 2", "e 2 1", "e 3 3", "p 1")), [({"X": 2, "Y": 1}, 0)])
        self.assertEqual(fresh_matches(RULES, 3, facts_of("e 2 1", "p 2"), facts_of("e 1 2", "e 2 1", "p 1")), [({"X": 2, "Y": 1}, 1)])
        self.assertEqual(kinds_of(fresh_matches(RULES, 0, old, new)[0]), kinds_of(({"X": "a", "Y": "b"}, 1)))

    def test_no_rules(self):
        for thing in odd_objects() + [-1, 4, "0", (0,)]:
            with self.assertRaises(NoRule) as caught:
                fresh_matches(RULES, thing, FACTS, FACTS)
            self.assertIs(caught.exception.number, thing)
        with self.assertRaises(NoRule):
            fresh_matches(Rules([]), 0, FACTS, FACTS)

    def test_against_the_words(self):
        places = set()
        for seed in range(400):
            rules, facts = Dice(seed).program(1 + seed % 3, ("not", "unlike", "not"))
            dice = Dice(seed + 500)
            kinds = {"p": 1, "q": 2, "r": 1, "e": 2, "f": 1}
            old = set(facts) | set(dice.facts(4, kinds, ["a", "b", 3]))
            new = (old - set(dice.random.sample(sorted(old, key=str), min(2, len(old))))) | set(dice.facts(3, kinds, ["a", "b", 3]))
            for number, (head, body) in enumerate(rules):
                slow = [(calls, place_of(body, calls, old)) for calls in brute.matches(new, body)
                        if not all([brute.holds(part, calls, old) for part in body])]
                told = fresh_matches(Rules(rules), number, Facts(sorted(old, key=str)), Facts(sorted(new, key=str)))
                self.assertEqual(told, sorted(slow, key=lambda pair: [brute.term_rank(t) for t in pair[0].values()]))
                places |= {(place, body[place][0] == "not") for match, place in told}
        self.assertGreater(len(places), 5)


if __name__ == "__main__":
    unittest.main()
