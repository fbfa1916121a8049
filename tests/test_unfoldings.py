"""Points [84], [85], [86], [91]: expansions, enough rounds, and which rules may be used first."""

import unittest
from itertools import permutations, product

from rulehouse.errors import BadNumber, NotPlain
from rulehouse.facts import Facts
from rulehouse.following import heights
from rulehouse.rules import Rules
from rulehouse.unfoldings import expansions, first_apart, slow_facts
from tests import brute
from tests.brute import Dice
from tests.odd import facts_of, kinds_of, odd_objects, rules_of
from tests.test_programs import BOTH, EMPTY, LINE, NOTS, ROUGH, frozen

FLAT = rules_of("p X if q X", "q X if r X")


def renamed(rule, side):
    """The rule with letters of its own: pairs of the side and the letter."""
    def put(atom):
        return (atom[0],) + tuple([(side, term) if brute.is_letter(term) else term for term in atom[1:]])
    return put(rule[0]), [put(atom) for atom in rule[1]]


def unified(pairs):
    """The dict by which pairs of terms become one, in the most general way, None if they can't."""
    calls = {}

    def led(term):
        while isinstance(term, tuple) and term in calls:
            term = calls[term]
        return term

    for one, other in pairs:
        one, other = led(one), led(other)
        if one == other:
            continue
        if isinstance(one, tuple):
            calls[one] = other
        elif isinstance(other, tuple):
            calls[other] = one
        else:
            return None
    return led


def plainly(head, body):
    """The rule with letters A, B, .. for pairs, and each atom once."""
    names = {}

    def put(atom):
        return (atom[0],) + tuple([names.setdefault(term, "ABCDEFGHIJKLMNOPQRSTUVWXYZ"[min(len(names), 25)])
                                   if isinstance(term, tuple) else term for term in atom[1:]])
    return put(head), tuple(dict.fromkeys([put(atom) for atom in body]))


def slow_taken(rule, choices):
    """What comes of a rule by taking each atom together with a head, or with none."""
    head, body = renamed(rule, -1)
    others = [None if other is None else renamed(other, side) for side, other in enumerate(choices)]
    pairs = []
    for atom, other in zip(body, others):
        if other is not None:
            if other[0][0] != atom[0] or len(other[0]) != len(atom):
                return None
            pairs.extend(zip(atom[1:], other[0][1:]))
    led = unified(pairs)
    if led is None:
        return None
    atoms = []
    for atom, other in zip(body, others):
        atoms.extend([atom] if other is None else other[1])
    return plainly(*[(head[0],) + tuple([led(term) for term in head[1:]]),
                     [(atom[0],) + tuple([led(term) for term in atom[1:]]) for atom in atoms]])


def are_alike(one, other):
    mine, theirs = brute.letters_in([one[0]] + list(one[1])), brute.letters_in([other[0]] + list(other[1]))
    if len(mine) != len(theirs) or len(set(one[1])) != len(set(other[1])):
        return False
    for told in permutations(theirs):
        calls = dict(zip(mine, told))
        if brute.put(one[0], calls) == other[0] and {brute.put(atom, calls) for atom in one[1]} == set(other[1]):
            return True
    return False


def once(rules):
    found = []
    for rule in rules:
        rule = (rule[0], tuple(dict.fromkeys(rule[1])))
        if not any([are_alike(rule, other) for other in found]):
            found.append(rule)
    return found


def slow_expansions(rules, height):
    rows = [once(rules)]
    while len(rows) < height:
        ahead = [(rule, at == len(rows) - 1) for at, row in enumerate(rows) for rule in row]
        found = []
        for rule in rules:
            for choices in product([(None, False)] + ahead, repeat=len(rule[1])):
                if any([is_last for other, is_last in choices]):
                    made = slow_taken(rule, [other for other, is_last in choices])
                    if made is not None:
                        found.append(made)
        rows.append(once(found))
    return rows[height - 1]


def round_of(rules, facts):
    return set(facts) | brute.heads(rules, set(facts))


def drawn(seed):
    dice = Dice(seed)
    kinds = {"p": 1, "q": 1, "e": 1} if seed % 3 else {"p": 2, "e": 2, "r": 1}
    made = {"p": 1, "q": 1} if seed % 3 else {"p": 2, "r": 1}
    return [dice.rule(2, made, kinds, "XYZ" if seed % 2 else "XY", ["a", 2], ()) for _ in range(1 + seed % 3)]


class Expansions(unittest.TestCase):
    def same(self, told, *rows):
        listed = rules_of(*rows).listed()
        self.assertEqual(len(told), len(listed))
        for rule in told:
            self.assertTrue(any([are_alike(rule, other) for other in listed]), rule)

    def test_expansions(self):
        self.same(expansions(LINE, 1), "way X Y if edge X Y", "way X Z if edge X Y, way Y Z")
        self.same(expansions(rules=LINE, height=2), "way X Z if edge X Y, edge Y Z", "way X Z if edge X Y, edge Y V, way V Z")
        self.same(expansions(LINE, 3), "way X Z if edge X Y, edge Y V, edge V Z", "way X Z if edge X Y, edge Y V, edge V W, way W Z")
        self.same(expansions(FLAT, 1), "p X if q X", "q X if r X")
        self.same(expansions(FLAT, 2), "p X if r X")
        self.assertEqual((expansions(FLAT, 3), expansions(EMPTY, 1), expansions(EMPTY, 7)), ([], [], []))
        self.assertEqual(kinds_of(expansions(FLAT, 2)), kinds_of([(("p", "A"), (("r", "A"),))]))

    def test_all_atoms_at_once(self):
        rules = rules_of("p X Y if q X, q Y, e X Y", "q a", "q X if f X X", "q b if g")
        self.same(expansions(rules, 2), "p X Y if f X X, q Y, e X Y", "p X Y if q X, f Y Y, e X Y", "p X Y if f X X, f Y Y, e X Y",
                  "p a Y if q Y, e a Y", "p X a if q X, e X a", "p a a if e a a", "p b Y if g, q Y, e b Y", "p X b if q X, g, e X b",
                  "p b b if g, e b b", "p a b if g, e a b", "p b a if g, e b a", "p a X if f X X, e a X", "p X a if f X X, e X a",
                  "p b X if g, f X X, e b X", "p X b if f X X, g, e X b")
        self.same(expansions(rules_of("p if q X X", "q X Y if r X, s Y", "q a b"), 2), "p if r X, s X")

    def test_rules_that_are_alike(self):
        self.same(expansions(rules_of("p X if q X Y, q X Z", "p Y if q Y Z, q Y X", "p X if q X Y, q X Y"), 1),
                  "p X if q X Y, q X Z", "p X if q X Y")
        for height in (1, 2, 5, 20):
            self.same(expansions(rules_of("p if p, p, p, p"), height), "p if p")
        self.same(expansions(rules_of("p X if e X Y, p Y", "p X if e Y X, p Y"), 2), "p X if e X Y, e Y Z, p Z", "p X if e X Y, e Z Y, p Z",
                  "p X if e Y X, e Y Z, p Z", "p X if e Y X, e Z Y, p Z")

    def test_rules_that_are_hard_to_tell_apart(self):
        pairs = "p if e A B, e B A, e C D, e D C"
        ring = "p if e A B, e B C, e C D, e D A"
        self.same(expansions(rules_of(pairs, ring, "p if e D B, e A C, e C D, e B A", "p if e A D, e C B, e D A, e B C"), 1), pairs, ring)
        self.same(expansions(rules_of("p A B if e A C, e B D", "p A B if e A D, e B C", "p A B if e A C, e B C, e B D"), 1),
                  "p A B if e A C, e B D", "p A B if e A C, e B C, e B D")
        self.same(expansions(rules_of("p 1 if e 1 a", "p 1 if e 1 b", "p 2 if e 2 a", "p A if e A a", "p A if e A 1"), 1),
                  "p 1 if e 1 a", "p 1 if e 1 b", "p 2 if e 2 a", "p A if e A a", "p A if e A 1")
        self.same(expansions(rules_of("p A if q A B, q B A, r C", "p A if q A B, q B A, r A", "p B if q A B, q B A, r A"), 1),
                  "p A if q A B, q B A, r C", "p A if q A B, q B A, r A", "p A if q A B, q B A, r B")
        # What was made of the one atom decides what may be made of the others.
        self.same(expansions(rules_of("p if q A, q B, r A B", "q 1", "r 1 2"), 2), "p if q B, r 1 B", "p if q A, r A 1", "p if r 1 1",
                  "p if q 1, q 2", "p if q 2")

    def test_errors(self):
        for call in (expansions, slow_facts):
            for rules in (ROUGH, NOTS):
                with self.assertRaises(NotPlain) as caught:
                    call(rules, None)
                self.assertEqual(caught.exception.index, 1)
            for thing in odd_objects() + [-1, "1", [1]] + ([0] if call is expansions else []):
                with self.assertRaises(BadNumber) as caught:
                    call(LINE, thing)
                self.assertIs(caught.exception.thing, thing)
        for one, other, index in ((ROUGH, NOTS, 1), (LINE, NOTS, 1), (rules_of("p if not q"), NOTS, 0)):
            with self.assertRaises(NotPlain) as caught:
                first_apart(one, other)
            self.assertEqual(caught.exception.index, index)

    def test_against_the_words(self):
        many = [0, 0, 0]
        for seed in range(150):
            rules = drawn(seed)
            for height in (1, 2, 3):
                told = expansions(Rules(rules), height)
                if len(told) > 12 or max([len(rule[1]) for rule in told], default=0) > 6:
                    break
                slow = slow_expansions(rules, height)
                self.assertEqual(len(told), len(slow), (rules, height))
                for rule in told:
                    self.assertEqual(len([other for other in slow if are_alike(rule, other)]), 1)
                many[height - 1] += len(told)
        self.assertGreater(min(many), 40, many)


class EnoughRounds(unittest.TestCase):
    def test_slow_facts(self):
        self.assertIsNone(slow_facts(FLAT, 2))
        self.assertEqual(slow_facts(rules=FLAT, many=1), ([("r", 0)], ("p", 0)))
        self.assertEqual(slow_facts(rules_of("p X if q X"), 0), ([("q", 0)], ("p", 0)))
        self.assertIsNone(slow_facts(rules_of("p X if p X, q Y"), 0))
        self.assertIsNone(slow_facts(EMPTY, 0))
        self.assertEqual(slow_facts(rules_of("p 4"), 0), ([], ("p", 4)))
        facts, fact = slow_facts(LINE, 5)
        self.assertGreater(heights(LINE, Facts(facts))[fact], 5)
        self.assertEqual(facts, Facts(facts).listed())
        # All that two rounds make of p is made by one from any facts.
        self.assertIsNone(slow_facts(rules_of("p X if q X Y, p Y", "p X if q X Y"), 1))

    def test_against_the_words(self):
        found = [0, 0]
        for seed in range(200):
            rules = drawn(seed)
            for many in range(3):
                told = expansions(Rules(rules), many + 1)
                if len(told) > 25:
                    break
                pair = slow_facts(Rules(rules), many)
                higher = []
                for rule in told:
                    facts, fact = frozen(rules, rule)
                    higher.append(len([row for row in brute.rounds(rules, facts) if fact not in row]) > many)
                self.assertEqual(pair is None, not any(higher))
                found[pair is None] += 1
                if pair is None:
                    for seeds in range(3):
                        facts = Facts(Dice(seeds).facts(5, {"p": 1, "q": 1, "e": 1} if seed % 3 else {"p": 2, "e": 2, "r": 1}, ["a", 2, 3]))
                        self.assertLessEqual(max(heights(Rules(rules), facts).values(), default=0), many)
                else:
                    self.assertGreater(heights(Rules(rules), Facts(pair[0]))[pair[1]], many)
                    self.assertEqual(pair[0], Facts(pair[0]).listed())
        self.assertGreater(min(found), 60)


class FirstTheOne(unittest.TestCase):
    def test_first_apart(self):
        one, other = rules_of("p X if q X"), rules_of("q X if r X")
        self.assertEqual(first_apart(one, other), ([("r", 0)], ("p", 0)))
        self.assertIsNone(first_apart(one=other, other=one))
        self.assertIsNone(first_apart(EMPTY, LINE))
        self.assertIsNone(first_apart(LINE, EMPTY))
        self.assertIsNone(first_apart(rules_of("p X if q X", "p X if r X"), other))
        self.assertEqual(first_apart(rules_of("p X if q X 3"), rules_of("q X Y if r X, s Y")), ([("r", 4), ("s", 3)], ("p", 4)))
        self.assertEqual(kinds_of(first_apart(one, other)), kinds_of(([("r", 0)], ("p", 0))))

    def test_relations_with_other_numbers_of_places(self):
        self.assertIsNone(first_apart(rules_of("p if q 1"), rules_of("q if r")))
        self.assertEqual(first_apart(rules_of("p if q 1"), rules_of("q X if r X, p 5 5")), ([("p", 5, 5), ("r", 1)], ("p",)))

    def test_against_the_words(self):
        found = [0, 0]
        for seed in range(400):
            one, other = drawn(seed), drawn(seed + 3000)
            if {atom[0]: len(atom) for rule in one for atom in [rule[0]] + list(rule[1])} == {}:
                continue
            pair = first_apart(Rules(one), Rules(other))
            found[pair is None] += 1
            if pair is not None:
                facts, fact = pair
                self.assertIn(fact, round_of(one, round_of(other, facts)))
                self.assertNotIn(fact, round_of(other, round_of(one, facts)))
                self.assertEqual(facts, Facts(facts).listed())
                continue
            for seeds in range(6):
                kinds = {"p": 1, "q": 1, "e": 1} if seed % 3 else {"p": 2, "e": 2, "r": 1}
                facts = Dice(seeds).facts(1 + seeds, kinds, ["a", 2, 3])
                self.assertTrue(round_of(one, round_of(other, facts)) <= round_of(other, round_of(one, facts)), (one, other, facts))
        self.assertGreater(min(found), 60)


class Limits(unittest.TestCase):
    def test_heights_to_twenty(self):
        rules = rules_of("p X if e X Y, p Y", "p X if e X X", "q X if p X, q Y", "q X if f X")
        # A row of edges is as long as its expansion is high.
        lines = rules_of("p X if e X, p X", "p X if f X", "q X if p X")
        for height in range(1, 21):
            self.assertLessEqual(len(expansions(lines, height)), 4)
        self.assertEqual(len(expansions(rules, 4)) > 5, True)
        six = rules_of("a X if b X", "b X if c X", "c X if d X", "d X if e X", "e X if f X", "f X if a X")
        for height in (6, 13, 20):
            self.assertEqual(len(expansions(six, height)), 6)
        self.assertIsNone(slow_facts(six, 5))
        self.assertIsNotNone(slow_facts(six, 4))

    def test_nine_atoms(self):
        rules = rules_of("p X Z if p X Y, p Y Z, p Z X")
        self.assertEqual(max([len(rule[1]) for rule in expansions(rules, 2)]), 9)
        self.assertEqual(len(expansions(rules, 2)), len(slow_expansions(rules.listed(), 2)[:60]))


if __name__ == "__main__":
    unittest.main()
