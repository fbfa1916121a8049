"""Points [109], [110]: whether a fact can matter to a relation, whatever the base."""

import unittest

from rulehouse.errors import HasNot, HasUnlike, IsMade, NoFact, Ringed
from rulehouse.facts import Facts
from rulehouse.matters import matters
from rulehouse.rules import Rules
from tests import brute
from tests.brute import Dice
from tests.odd import facts_of, kinds_of, odd_objects, rules_of
from tests.test_following import NO_FACTS

RULES = rules_of("p X if e X Y, f Y", "p X if g X, e X X", "q X if p X, g X", "r X if g X", "r X if g X, f X", "t if q a, f b")


def shows(rules, relation, fact, told):
    """Whether a pair (base, other) shows that a fact matters."""
    base, other = told
    made = {head[0] for head, body in rules}
    if fact in base or any([one[0] in made for one in base.listed()]) or other[0] != relation:
        return False
    return other not in brute.follows(rules, base.listed()) and other in brute.follows(rules, base.listed() + [fact])


def slow_matters(rules, relation, fact, many):
    """Whether some base of the things that are named and so many others shows it."""
    parts = [part for head, body in rules for part in [head, *body]] + [fact]
    things = sorted({term for part in parts for term in part[1:] if not brute.is_letter(term)}, key=brute.term_rank)
    things += ["new" + str(n) for n in range(many)]
    made = {head[0] for head, body in rules}
    kinds = {(part[0], len(part) - 1) for part in parts if part[0] not in made}
    every = [(name,) + told for name, places in sorted(kinds) for told in brute.product(things, repeat=places)]
    for base in brute.subsets([one for one in every if one != fact]):
        more = brute.follows(rules, base | {fact}) - brute.follows(rules, base)
        if any([one[0] == relation for one in more]):
            return True
    return False


def drawn(seed):
    """Plain rules without rings: each head stands above all relations of its body."""
    dice = Dice(seed)
    kinds = {"e": 1, "f": 1} if seed % 3 else {"e": 2}
    rules = []
    for level, name in enumerate(["p", "q", "r"][:1 + seed % 3]):
        for _ in range(dice.random.randint(1, 2)):
            below = {**kinds, **{other: 1 for other in ["p", "q", "r"][:level]}}
            if level and dice.random.random() < 0.6:
                below.pop("e")
            rules.append(dice.rule(3, {name: 1}, below, "XY", ["a"], ()))
    relation = dice.random.choice(["p", "q", "r", "e"])
    return rules, relation, dice.fact(kinds, ["a", "b"])


class Matters(unittest.TestCase):
    def test_matters(self):
        for relation, fact, told in (("p", ("f", 3), True), ("p", ("e", 1, 2), True), ("p", ("g", 1), True), ("q", ("f", "a"), True),
                                     ("r", ("g", 1), True), ("r", ("f", 1), False), ("t", ("f", "b"), True), ("t", ("g", "a"), True),
                                     ("t", ("g", "b"), False), ("t", ("e", "b", "b"), False), ("t", ("e", "a", 7), True),
                                     ("t", ("zz",), False), ("p", ("f",), False), ("p", ("f", 1, 2), False), ("zz", ("f", 1), False)):
            found = matters(RULES, relation, fact)
            self.assertEqual(found is not None, told, (relation, fact))
            if told:
                self.assertTrue(shows(RULES.listed(), relation, fact, found))
                self.assertEqual(found, matters(rules=Rules(RULES.listed()), relation=relation, fact=list(fact)))
        self.assertEqual(kinds_of(matters(RULES, "p", ("f", 3))), ("tuple", ["Facts", ("tuple", ["str", "int"])]))

    def test_given_relations_stand_for_themselves(self):
        self.assertEqual(matters(RULES, "e", ("e", 1, 2)), (Facts([]), ("e", 1, 2)))
        self.assertEqual(matters(Rules([]), "zz", ("zz",)), (Facts([]), ("zz",)))
        self.assertIsNone(matters(RULES, "e", ("f", 1)))
        self.assertIsNone(matters(RULES, "zz", ("f", 1)))

    def test_what_stands_all_the_same_does_not_matter(self):
        self.assertIsNone(matters(rules_of("p X if e X", "p X if e X, f X"), "p", ("f", 1)))
        self.assertIsNone(matters(rules_of("p", "p if f X"), "p", ("f", 1)))
        self.assertIsNone(matters(rules_of("p X if e X Y, e X Z, f Z", "p X if e X Y"), "p", ("f", 1)))
        # Both atoms become the fact together.
        self.assertIsNotNone(matters(rules_of("p X if e X Y, e Y X", "p X if e X Y, unk X"), "p", ("e", 1, 1)))
        told = matters(rules_of("p X if e X, e Y, g X Y", "p X if e Y, g X Y"), "p", ("e", 4))
        self.assertTrue(shows(rules_of("p X if e X, e Y, g X Y", "p X if e Y, g X Y").listed(), "p", ("e", 4), told))

    def test_heads_that_can_not_be_taken_together(self):
        rules = rules_of("q X if p b X", "p a X if e X", "p b X if f X", "p X X if g X", "p b a if h")
        for fact, told in ((("e", 1), False), (("f", 1), True), (("g", "b"), True), (("g", "a"), False), (("h",), True)):
            found = matters(rules, "q", fact)
            self.assertEqual(found is not None, told, fact)
            self.assertTrue(found is None or shows(rules.listed(), "q", fact, found))

    def test_errors(self):
        both = rules_of("p X if q X, unlike X 1", "q X if q X, not r X")
        with self.assertRaises(HasNot) as caught:
            matters(both, "p", None)
        self.assertEqual(caught.exception.index, 1)
        with self.assertRaises(HasUnlike) as caught:
            matters(rules_of("q if q", "p X if q, e X, unlike X 1"), "q", None)
        self.assertEqual(caught.exception.index, 1)
        ringed = rules_of("a if c, e", "c if b", "b if c", "d if d", "z if e")
        for relation, first in (("a", "b"), ("b", "b"), ("c", "b"), ("d", "d")):
            with self.assertRaises(Ringed) as caught:
                matters(ringed, relation, None)
            self.assertEqual(caught.exception.relation, first)
        self.assertIsNotNone(matters(ringed, "z", ("e",)))
        for thing in NO_FACTS + odd_objects()[:12]:
            with self.assertRaises(NoFact) as caught:
                matters(RULES, "p", thing)
            self.assertIs(caught.exception.thing, thing)
        for fact in (("p", 1), ["r", 1], ("t", 3, 4)):
            with self.assertRaises(IsMade) as caught:
                matters(RULES, "q", fact)
            self.assertEqual(caught.exception.relation, fact[0])

    def test_against_all_bases(self):
        yes, no = 0, 0
        for seed in range(400):
            rules, relation, fact = drawn(seed)
            if len(brute.letters_in([part for head, body in rules for part in [head, *body]])) > 2:
                continue
            found = matters(Rules(rules), relation, fact)
            slow = slow_matters(rules, relation, fact, 0 if seed % 3 == 0 else 2)
            if found is None:
                no += 1
                self.assertFalse(slow, seed)
            else:
                yes += 1
                self.assertTrue(shows(rules, relation, fact, found), seed)
        self.assertGreater(min(yes, no), 80)

    def test_at_the_limits(self):
        rules = rules_of("a X Y if b X Z, b Z Y", "b X Y if c X Z, e Z Y", "b X Y if d Y X, e X Y", "c X Y if e X Z, e Z Y",
                         "c X Y if f X, f Y", "d X Y if f X, e X Y")
        for fact in (("e", 1, 2), ("e", 1, 1), ("f", "k")):
            self.assertTrue(shows(rules.listed(), "a", fact, matters(rules, "a", fact)))
        self.assertIsNone(matters(rules, "a", ("g", 1)))


if __name__ == "__main__":
    unittest.main()
