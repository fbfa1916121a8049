"""Points [10], [33], [41]: trees."""

import unittest

from rulehouse.errors import BadNumber, HasNot, NoFact
from rulehouse.facts import Facts
from rulehouse.following import what_follows
from rulehouse.rules import Rules
from rulehouse.trees import is_tree, least_steps, tree_of
from tests import brute
from tests.brute import Dice
from tests.odd import facts_of, kinds_of, odd_objects, rules_of
from tests.test_following import NO_FACTS

WAY = rules_of("way X Y if e X Y", "way X Z if e X Y, way Y Z")
EDGES = facts_of("e a b", "e b c")
A_C = ("way", "a", "c")
TREE = (A_C, 1, ((("e", "a", "b"), None, ()), (("way", "b", "c"), 0, ((("e", "b", "c"), None, ()),))))
NOT = rules_of("p", "q if not r", "s if not t")


def as_lists(thing):
    return [as_lists(part) for part in thing] if isinstance(thing, tuple) else thing


def height_of(tree):
    return 0 if tree[1] is None else 1 + max([height_of(below) for below in tree[2]], default=0)


def steps_in(tree):
    return (tree[1] is not None) + sum([steps_in(below) for below in tree[2]])


class IsTree(unittest.TestCase):
    def test_the_example(self):
        self.assertIs(is_tree(WAY, EDGES, A_C, TREE), True)
        self.assertIs(is_tree(rules=WAY, facts=EDGES, fact=list(A_C), thing=as_lists(TREE)), True)
        self.assertEqual(tree_of(WAY, EDGES, A_C), TREE)

    def test_wrong_trees(self):
        given = (("e", "a", "b"), None, ())
        low = TREE[2][1]
        for thing in odd_objects() + [
                A_C, (), [], (A_C, 1), (A_C, None, ()), (A_C, 0, TREE[2]), (A_C, True, TREE[2]), (A_C, 2, TREE[2]),
                (A_C, -1, TREE[2]), (A_C, "1", TREE[2]), (A_C, [1], TREE[2]), (A_C, 1, TREE[2][:1]), (A_C, 1, ()),
                (A_C, 1, TREE[2] + (given,)), (A_C, 1, (low, given)), (A_C, 1, (given, given)),
                (("way", "a", "b"), 0, (given,)), (A_C, 1, (given, (low[0], None, ()))), (A_C, 1, {0: given, 1: low}),
                (A_C, 1, (given, (low[0], 0, ((("e", "b", "c"), None, (given,)),)))), (A_C, 1, (given, None)),
                (A_C, 1, (given, (low[0], 0, ((("e", "b", "c"), 0, ()),)))), TREE + ((),), {0: A_C, 1: 1, 2: TREE[2]},
                (A_C, 1, (given, (low[0], 0, "e"))), (A_C, 1, (given, (("way", "b", True), 0, low[2])))]:
            self.assertIs(is_tree(WAY, EDGES, A_C, thing), False, thing)
        self.assertIs(is_tree(WAY, EDGES, ("way", "a", "b"), TREE), False)

    def test_a_given_fact_may_have_trees_of_both_kinds(self):
        rules = rules_of("p if p", "p", "p if unlike 1 1")
        given = (("p",), None, ())
        for tree in (given, (("p",), 0, (given,)), (("p",), 0, ((("p",), 0, (given,)),)), (("p",), 1, [])):
            self.assertIs(is_tree(rules, facts_of("p"), ("p",), tree), True)
        self.assertIs(is_tree(rules, facts_of("p"), ("p",), (("p",), 2, ())), False)
        self.assertIs(is_tree(rules, Facts([]), ("p",), given), False)

    def test_trees_of_other_facts_are_no_trees_of_atoms(self):
        rules = rules_of("p a X if q X", "p X X if q X, r")
        facts = facts_of("q 1", "s 1", "q 1 2", "q", "r", "q b")

        def given(*fact):
            return (fact, None, ())

        self.assertIs(is_tree(rules, facts, ("p", "a", 1), (("p", "a", 1), 0, [given("q", 1)])), True)
        for tree in ((0, [given("s", 1)]), (0, [given("q", 1, 2)]), (0, [given("q")]), (0, [given("q", "b")]),
                     (1, [given("q", 1), given("r")]), (0, []), (0, [given("q", 1), given("q", 1)])):
            self.assertIs(is_tree(rules, facts, ("p", "a", 1), (("p", "a", 1),) + tree), False, tree)
        for trees in ("", {}, None, Facts([]), 0, ((),)):
            self.assertIs(is_tree(rules, facts, ("r",), (("r",), None, trees)), False, trees)
        self.assertIs(is_tree(rules, facts, ("r",), [["r"], None, []]), True)
        self.assertIs(is_tree(rules, facts, ("p", "a"), (("p", "a"), 0, [given("q", 1)])), False)
        self.assertIs(is_tree(rules, facts, ("p", "b", 1), (("p", "b", 1), 0, [given("q", 1)])), False)

    def test_unlikes_are_asked(self):
        rules = rules_of("p X if unlike X Y, q X, q Y")
        below = {thing: (("q", thing), None, ()) for thing in (1, 2)}
        facts = facts_of("q 1", "q 2")
        self.assertIs(is_tree(rules, facts, ("p", 1), (("p", 1), 0, (below[1], below[2]))), True)
        self.assertIs(is_tree(rules, facts, ("p", 1), (("p", 1), 0, (below[1], below[1]))), False)
        self.assertIs(is_tree(rules, facts, ("p", 1), (("p", 1), 0, (below[2], below[1]))), False)

    def test_truths_are_no_integers(self):
        rules = rules_of("p X if q X")
        self.assertIs(is_tree(rules, facts_of("q 1"), ("p", 1), (("p", True), 0, ((("q", 1), None, ()),))), False)
        self.assertIs(is_tree(rules, facts_of("q 1"), ("p", 1), (("p", 1), False, ((("q", 1), None, ()),))), False)
        self.assertIs(is_tree(rules, facts_of("q 1"), ("p", 1), (("p", 1), 0, ((("q", True), None, ()),))), False)

    def test_errors(self):
        for call in (lambda *told: is_tree(*told, None), least_steps, tree_of):
            with self.assertRaises(HasNot) as caught:
                call(NOT, EDGES, None)
            self.assertEqual(caught.exception.index, 1)
            for thing in NO_FACTS:
                with self.assertRaises(NoFact) as caught:
                    call(WAY, EDGES, thing)
                self.assertIs(caught.exception.thing, thing)
        for call in (least_steps, tree_of):
            for thing in [most for most in odd_objects() if most is not None] + [-1, "1", [1]]:
                with self.assertRaises(BadNumber) as caught:
                    call(WAY, EDGES, A_C, thing)
                self.assertIs(caught.exception.thing, thing)
            self.assertRaises(NoFact, call, WAY, EDGES, 1, -1)
            self.assertRaises(HasNot, call, NOT, EDGES, A_C, -1)


class LeastSteps(unittest.TestCase):
    def test_least_steps(self):
        self.assertEqual([least_steps(WAY, EDGES, A_C, most) for most in (0, 1, 2, 3, None)], [None, None, 2, 2, 2])
        self.assertEqual([least_steps(WAY, EDGES, ("e", "a", "b"), most) for most in (0, None)], [0, 0])
        self.assertIsNone(least_steps(rules=WAY, facts=EDGES, fact=("way", "c", "a"), most=None))
        self.assertIsNone(tree_of(rules=WAY, facts=EDGES, fact=A_C, most=1))
        self.assertEqual(tree_of(WAY, EDGES, A_C, 2), TREE)
        self.assertEqual(tree_of(WAY, EDGES, ["e", "a", "b"], 0), (("e", "a", "b"), None, ()))
        self.assertEqual(least_steps(WAY, EDGES, A_C, 10 ** 17), 2)

    def test_a_higher_tree_may_have_fewer_steps(self):
        rules = rules_of("z if a, b, c", "a if x", "b if x", "c if x", "x if y", "z if m", "m if n", "n if o", "o if y",
                         "x", "y")
        self.assertEqual([least_steps(rules, Facts([]), ("z",), most) for most in range(8)],
                         [None, None, None, 7, 7, 5, 5, 5])
        for most in (3, 4, 5, None):
            tree = tree_of(rules, Facts([]), ("z",), most)
            self.assertTrue(is_tree(rules, Facts([]), ("z",), tree))
            self.assertEqual(steps_in(tree), least_steps(rules, Facts([]), ("z",), most))

    def test_a_step_that_is_found_as_its_fact_gains(self):
        rules = rules_of("x if a, b, c", "x if m", "m if n", "n if g", "a if g", "b if g", "c if g", "w if v", "v if g",
                         "z if x, w", "y if z")
        self.assertEqual([least_steps(rules, facts_of("g"), ("x",), most) for most in range(5)], [None, None, 4, 3, 3])
        self.assertEqual([least_steps(rules, facts_of("g"), ("z",), most) for most in range(6)],
                         [None, None, None, 7, 6, 6])
        self.assertEqual([least_steps(rules, facts_of("g"), ("y",), most) for most in (3, 4, 5, None)], [None, 8, 7, 7])
        self.assertEqual(steps_in(tree_of(rules, facts_of("g"), ("y",))), 7)

    def test_of_steps_of_one_height_the_cheaper_one(self):
        rules = rules_of("z if a, b", "z if a", "z if b, a, a", "a if x", "b if x")
        self.assertEqual(least_steps(rules, facts_of("x"), ("z",)), 2)
        self.assertEqual(steps_in(tree_of(rules, facts_of("x"), ("z",), 2)), 2)

    def test_rules_without_atoms(self):
        rules = rules_of("p a if unlike 1 2")
        self.assertEqual((tree_of(rules, Facts([]), ("p", "a")), least_steps(rules, Facts([]), ("p", "a"), 1)),
                         ((("p", "a"), 0, ()), 1))
        self.assertIsNone(tree_of(rules, Facts([]), ("p", "a"), 0))

    def test_kinds(self):
        self.assertEqual(kinds_of(tree_of(WAY, EDGES, list(A_C))), kinds_of(TREE))

    def test_against_the_words(self):
        for seed in range(200):
            rules, facts = Dice(seed).program(seed % 7)
            standing = brute.follows(rules, facts)
            for fact in sorted(standing, key=brute.atom_rank)[:6] + [("p", "zz")]:
                for most in (None, 0, 1, 2, 3):
                    slow = brute.least_steps(rules, facts, fact, len(standing) + 1 if most is None else most)
                    self.assertEqual(least_steps(Rules(rules), Facts(facts), fact, most), slow)
                    tree = tree_of(Rules(rules), Facts(facts), fact, most)
                    if slow is None:
                        self.assertIsNone(tree)
                        continue
                    self.assertTrue(is_tree(Rules(rules), Facts(facts), fact, tree))
                    self.assertTrue(is_tree(Rules(rules), Facts(facts), fact, as_lists(tree)))
                    self.assertEqual(steps_in(tree), slow)
                    self.assertTrue(most is None or height_of(tree) <= most)
                    self.assertEqual(tree, tree_of(rules=Rules(tuple(rules)), facts=Facts(facts[::-1]),
                                                   fact=list(fact), most=most))


class Limits(unittest.TestCase):
    def test_a_tree_of_two_hundred_steps(self):
        rules = rules_of("q Y if q X, next X Y")
        facts = Facts([("next", n, n + 1) for n in range(199)] + [("q", 0)])
        tree = tree_of(rules, facts, ("q", 199))
        self.assertEqual(least_steps(rules, facts, ("q", 199)), 199)
        self.assertTrue(is_tree(rules, facts, ("q", 199), tree))
        self.assertFalse(is_tree(rules, facts, ("q", 198), tree))
        self.assertIsNone(least_steps(rules, facts, ("q", 199), 60))
        self.assertEqual(least_steps(rules, facts, ("q", 60), 60), 60)

    def test_rows_of_edges(self):
        rules = rules_of("p X Z if p X Y, p Y Z", "p X Y if e X Y")
        for many in range(1, 31):
            facts = Facts([("e", n, n + 1) for n in range(many)])
            end = ("p", 0, many)
            self.assertEqual(least_steps(rules, facts, end), 2 * many - 1)
            most = many % 8
            least = 2 * many - 1 if most > 0 and many <= 2 ** (most - 1) else None
            self.assertEqual(least_steps(rules, facts, end, most), least)
            tree = tree_of(rules, facts, end, most)
            if least is None:
                self.assertIsNone(tree)
                continue
            self.assertTrue(is_tree(rules, facts, end, tree))
            self.assertEqual(steps_in(tree), least)
            self.assertLessEqual(height_of(tree), most)

    def test_many_steps(self):
        rules = rules_of("t X Z if t X Y, t Y Z")
        facts = Facts([("t", n, n + 1) for n in range(32)])
        self.assertEqual(len(what_follows(rules, facts)), 528)
        self.assertEqual([least_steps(rules, facts, ("t", 0, 32), most) for most in (4, 5, None)], [None, 31, 31])
        tree = tree_of(rules, facts, ("t", 0, 32), 5)
        self.assertTrue(is_tree(rules, facts, ("t", 0, 32), tree))
        self.assertEqual((height_of(tree), steps_in(tree)), (5, 31))


if __name__ == "__main__":
    unittest.main()
