"""Points [81], [82], [83], [91]: rules that follow by others everywhere, and those that are spare."""

import unittest
from itertools import product

from rulehouse.errors import BadQuestion, NotPlain
from rulehouse.facts import Facts
from rulehouse.following import what_follows
from rulehouse.programs import least_rules, parting_facts, rule_tree, rule_world, spare_rules, unfollowed
from rulehouse.rules import Rules
from rulehouse.trees import is_tree
from tests import brute
from tests.brute import Dice
from tests.odd import facts_of, kinds_of, odd_objects, rules_of

LINE = rules_of("way X Y if edge X Y", "way X Z if edge X Y, way Y Z")
BOTH = rules_of("way X Y if edge X Y", "way X Z if way X Y, way Y Z")
ROUGH = rules_of("p X if q X", "r X if q X, unlike X 1")
NOTS = rules_of("p X if q X", "r X if q X, not s X")
EMPTY = Rules([])


def named(rules):
    return {term for head, body in rules for part in [head] + list(body) for term in part[1:] if not brute.is_letter(term)}


def first_new(things):
    return max([thing for thing in things if isinstance(thing, int)] + [-1]) + 1


def frozen(rules, rule):
    """The facts of a frozen body, and the frozen head."""
    first = first_new(named(rules + [rule]))
    calls = {letter: first + n for n, letter in enumerate(brute.letters_in([rule[0]] + list(rule[1])))}
    return {brute.put(atom, calls) for atom in rule[1]}, brute.put(rule[0], calls)


def follows_by(rules, rule):
    facts, fact = frozen(rules, rule)
    return fact in brute.follows(rules, facts)


def is_safe(rule):
    return set(brute.letters_in([rule[0]])) <= set(brute.letters_in(rule[1]))


def slow_parting(one, other):
    """The first pair of all that the words let stand."""
    things = named(one + other)
    first = first_new(things)
    best = None
    for rule in one:
        letters = brute.letters_in([rule[0]] + list(rule[1]))
        for told in product(sorted(things, key=brute.term_rank) + [first + n for n in range(len(letters))], repeat=len(letters)):
            new = sorted(set(told) - things)
            if new != [first + n for n in range(len(new))]:
                continue
            calls = dict(zip(letters, told))
            facts = sorted({brute.put(atom, calls) for atom in rule[1]}, key=brute.atom_rank)
            fact = brute.put(rule[0], calls)
            key = (len(facts), len(new), [brute.atom_rank(one) for one in facts], brute.atom_rank(fact))
            if (best is None or key < best[0]) and fact not in brute.follows(other, facts):
                best = (key, (facts, fact))
    return None if best is None else best[1]


def slow_least(rules):
    rules = list(rules)
    for number in range(len(rules)):
        for index in reversed(range(len(rules[number][1]))):
            head, body = rules[number]
            shorter = (head, body[:index] + body[index + 1:])
            if is_safe(shorter) and follows_by(rules, shorter):
                rules[number] = shorter
    for number in reversed(range(len(rules))):
        if follows_by(rules[:number] + rules[number + 1:], rules[number]):
            rules = rules[:number] + rules[number + 1:]
    return rules


def drawn(seed, many=None):
    """A small plain program."""
    dice = Dice(seed)
    kinds = {"p": 1, "q": 2, "e": 2} if seed % 2 else {"p": 1, "r": 1, "q": 1}
    things = ["a", 1] if seed % 3 else [-4]
    return [dice.rule(3, kinds, kinds, "XYZ"[:1 + seed % 3], things, ()) for _ in range(many or 1 + seed % 4)]


class Trees(unittest.TestCase):
    def test_rules_that_follow(self):
        rule = (("way", "A", "D"), [("edge", "A", "B"), ("edge", "B", "C"), ("way", "C", "D")])
        tree = rule_tree(rules=LINE, rule=rule)
        # The letters are frozen in the order of the head and then the body.
        facts = facts_of("edge 0 2", "edge 2 3", "way 3 1")
        self.assertIs(is_tree(LINE, facts, ("way", 0, 1), tree), True)
        self.assertIsNone(rule_world(rules=LINE, rule=rule))
        self.assertEqual(kinds_of(rule_tree(LINE, [["p", "X"], [["p", "X"]]])), kinds_of((("p", 0), None, ())))
        self.assertEqual(rule_tree(EMPTY, (("p", "X"), (("p", "X"), ("q", "X")))), (("p", 0), None, ()))

    def test_rules_that_do_not(self):
        rule = BOTH.listed()[1]
        self.assertIsNone(rule_tree(LINE, rule))
        self.assertEqual(rule_world(LINE, rule), facts_of("way 0 2", "way 2 1"))
        self.assertEqual(rule_world(LINE, (("way", "X", 7), (("edge", "X", -2),))), facts_of("edge 8 -2", "way 8 -2"))
        self.assertEqual(rule_world(rules_of("q 4 if q 3"), (("p", "X"), (("q", "X"),))), facts_of("q 5"))
        self.assertEqual(rule_world(EMPTY, (("p",), ())), Facts([]))
        self.assertEqual(kinds_of(rule_world(EMPTY, (("p",), ()))), "Facts")

    def test_errors(self):
        for call in (rule_tree, rule_world):
            for rules in (ROUGH, NOTS):
                with self.assertRaises(NotPlain) as caught:
                    call(rules, None)
                self.assertEqual(caught.exception.index, 1)
            for thing in odd_objects() + [(("p", "X"), ()), ("p", ()), (("p", "X"), [("q", "Y")]), (("p",), [("unlike", "X", 1)])]:
                with self.assertRaises(BadQuestion) as caught:
                    call(LINE, thing)
                self.assertIs(caught.exception.thing, thing)
            for part in (("not", ("q", "X")), ("unlike", "X", 1)):
                with self.assertRaises(NotPlain) as caught:
                    call(LINE, (("p", "X"), [("q", "X"), ("q", "Y"), part, ("not", ("q", "X"))]))
                self.assertEqual(caught.exception.index, 2)
        for call in (unfollowed, parting_facts):
            for one, other, index in ((ROUGH, NOTS, 1), (LINE, NOTS, 1), (rules_of("p if not q"), NOTS, 0)):
                with self.assertRaises(NotPlain) as caught:
                    call(one, other)
                self.assertEqual(caught.exception.index, index)
        for call in (spare_rules, least_rules):
            with self.assertRaises(NotPlain) as caught:
                call(ROUGH)
            self.assertEqual(caught.exception.index, 1)

    def test_just_one_of_both(self):
        found = [0, 0]
        for seed in range(400):
            rules, rule = drawn(seed), drawn(seed + 1000, 1)[0]
            tree, world = rule_tree(Rules(rules), rule), rule_world(Rules(rules), rule)
            self.assertNotEqual(tree is None, world is None)
            facts, fact = frozen(rules, rule)
            found[0 if tree is None else 1] += 1
            if tree is None:
                self.assertEqual(world, Facts(list(brute.follows(rules, facts))))
                self.assertNotIn(fact, world)
            else:
                self.assertTrue(is_tree(Rules(rules), Facts(list(facts)), fact, tree))
        self.assertGreater(min(found), 30)


class Within(unittest.TestCase):
    def test_within(self):
        self.assertEqual((unfollowed(LINE, BOTH), unfollowed(one=BOTH, other=LINE)), ([], [1]))
        self.assertEqual((unfollowed(EMPTY, LINE), unfollowed(LINE, EMPTY)), ([], [0, 1]))
        self.assertIsNone(parting_facts(one=LINE, other=BOTH))
        self.assertEqual(parting_facts(BOTH, LINE), ([("way", 0, 1), ("way", 1, 0)], ("way", 0, 0)))
        self.assertEqual(kinds_of(parting_facts(BOTH, LINE)), kinds_of(([("way", 0, 1), ("way", 1, 0)], ("way", 0, 0))))
        self.assertEqual(parting_facts(rules_of("p"), EMPTY), ([], ("p",)))

    def test_named_things_stand_ahead_of_new_ones(self):
        self.assertEqual(parting_facts(rules_of("p X if q X"), rules_of("p b if q b")), ([("q", 0)], ("p", 0)))
        self.assertEqual(parting_facts(rules_of("p X if q X"), rules_of("r b if q c")), ([("q", "b")], ("p", "b")))
        self.assertEqual(parting_facts(rules_of("p X if q X, q Y"), rules_of("p b if q b", "p c if q c")), ([("q", 0)], ("p", 0)))
        self.assertEqual(parting_facts(rules_of("p X Y if q X, r Y"), rules_of("p X X if q X, r X", "p 3 5 if q 3")),
                         ([("q", 5), ("r", 3)], ("p", 5, 3)))

    def test_new_things_in_all_orders(self):
        one = rules_of("p Y X if e X Y, f X")
        self.assertEqual(parting_facts(one, rules_of("p X X if e X X")), ([("e", 0, 1), ("f", 0)], ("p", 1, 0)))
        two = rules_of("p X Y if e Y X, f X")
        self.assertEqual(parting_facts(two, rules_of("p X X if e X X")), ([("e", 0, 1), ("f", 1)], ("p", 1, 0)))

    def test_against_the_words(self):
        apart = 0
        for seed in range(260):
            one, other = drawn(seed), drawn(seed + 5000)
            if seed % 5 == 0:
                other = one[1:] + other[:1]
            self.assertEqual(unfollowed(Rules(one), Rules(other)),
                             [number for number, rule in enumerate(one) if not follows_by(other, rule)])
            told = parting_facts(Rules(one), Rules(other))
            self.assertEqual(told, slow_parting(one, other), (one, other))
            self.assertEqual(told is None, unfollowed(Rules(one), Rules(other)) == [])
            apart += told is not None
            if told is None:
                for _ in range(3):
                    facts = Facts(Dice(seed).facts(5, {"p": 1, "q": 2, "e": 2} if seed % 2 else {"p": 1, "r": 1, "q": 1}, ["a", 1, 7]))
                    self.assertTrue(what_follows(Rules(one), facts).is_within(what_follows(Rules(other), facts)))
        self.assertTrue(100 < apart < 250, apart)

    def test_frozen_things_beside_those_of_both(self):
        self.assertEqual(unfollowed(rules_of("p X if q X"), rules_of("p 0 if q 0", "p 1 if q 1")), [0])


class Spare(unittest.TestCase):
    def test_spare_rules(self):
        rules = rules_of("p X if q X", "p X if q X, r X", "r X if p X", "p X if q X", "r X if q X")
        self.assertEqual(spare_rules(rules=rules), [0, 1, 3, 4])
        self.assertEqual(least_rules(rules=rules), rules_of("p X if q X", "r X if p X"))
        self.assertEqual((spare_rules(EMPTY), least_rules(EMPTY)), ([], EMPTY))
        self.assertEqual(spare_rules(LINE), [])

    def test_needless_atoms(self):
        self.assertEqual(least_rules(rules_of("p X if q X, q Y, q Z")), rules_of("p X if q X"))
        self.assertEqual(least_rules(rules_of("p X if q Y, q X")), rules_of("p X if q X"))
        self.assertEqual(least_rules(rules_of("p if q X, r", "r if q X")), rules_of("p if q X", "r if q X"))
        self.assertEqual(least_rules(rules_of("p if p", "q if r, r")), rules_of("q if r"))
        self.assertEqual(least_rules(rules_of("a if b, c", "b if c", "a if c")), rules_of("a if c", "b if c"))

    def test_against_the_words(self):
        shorter = 0
        for seed in range(400):
            rules = drawn(seed, 2 + seed % 4)
            told = least_rules(Rules(rules))
            self.assertEqual(told.listed(), slow_least(rules))
            self.assertEqual(spare_rules(Rules(rules)), [number for number, rule in enumerate(rules)
                                                         if follows_by(rules[:number] + rules[number + 1:], rule)])
            self.assertEqual((unfollowed(told, Rules(rules)), unfollowed(Rules(rules), told), spare_rules(told)), ([], [], []))
            shorter += told != Rules(rules)
        self.assertGreater(shorter, 100)


class Limits(unittest.TestCase):
    def test_six_rules_of_four_atoms(self):
        rules = rules_of("p A E if e A B, e B C, e C D, e D E", "p A C if p A B, p B C, e C C, e A a", "q A b if p A B, p B A",
                         "q A B if q B A, p A C, p C D, q D E", "e A A if q A B, q B C, q C D, q D A", "p A B if e A B")
        other = rules_of("p A B if e A B", "p A C if e A B, p B C", "q A c if p A B, p B A", "q A B if q B A, p A C, q C d")
        self.assertEqual(unfollowed(rules, other), [1, 2, 3, 4])
        self.assertEqual(spare_rules(rules), [])
        told = parting_facts(rules_of("p A B if e A B, e B C, e C D, e D a", "q A b if p A B, p B C, p C D, p D A"), other)
        self.assertEqual(told, ([("p", "a", "a")], ("q", "a", "b")))


if __name__ == "__main__":
    unittest.main()
