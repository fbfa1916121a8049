"""Points [72], [73], [75], [80]: how many trees there are, round ones, plain ones, those with just some leaves."""

import unittest
from itertools import product

from rulehouse.errors import BadNumber, BadProduct, HasNot, NoFact
from rulehouse.facts import Facts
from rulehouse.following import steps_for
from rulehouse.reasons import least_sets
from rulehouse.rules import Rules
from rulehouse.treecounts import plain_trees, round_tree, tree_count, trees_with
from rulehouse.trees import is_tree
from tests import brute
from tests.brute import Dice
from tests.odd import facts_of, kinds_of, odd_objects, rules_of
from tests.test_following import NO_FACTS
from tests.test_reasons import A_B, A_C, B_C, EDGES, GOAL, NOT, WAY, drawn
from tests.test_trees import height_of

MANY = 10 ** 9
RING = rules_of("p X Y if e X Y", "p X Z if p X Y, p Y Z")
BACK = facts_of("e a b", "e b a", "e b c")


def leaves_of(tree):
    if tree[1] is None:
        return [tree[0]]
    return [leaf for below in tree[2] for leaf in leaves_of(below)]


def goes_round(tree, above=()):
    return tree[0] in above or any([goes_round(below, above + (tree[0],)) for below in tree[2]])


def all_trees(rules, facts, height):
    """The dict from facts to all trees up to a height."""
    every = brute.steps(rules, facts)
    found = {fact: [(fact, None, ())] for fact in facts}
    for _ in range(height):
        more = {fact: [(fact, None, ())] for fact in facts}
        for head, number, below in every:
            for trees in product(*[found.get(fact, []) for fact in below]):
                more.setdefault(head, []).append((head, number, trees))
        found = more
    return found


def slow_count(every, facts, fact, height):
    """The number of trees up to a height, MANY for more than that."""
    counts = {told: 1 for told in facts}
    for _ in range(height):
        more = {told: 1 for told in facts}
        for head, number, below in every:
            many = 1
            for told in below:
                many *= counts.get(told, 0)
            more[head] = min(more.get(head, 0) + many, MANY)
        counts = more
    return counts.get(fact, 0)


def slow_with(every, facts, fact, leaves, height):
    """The number of trees up to a height with just these leaves, a sorted tuple."""
    rows = {(told, (told,)): 1 for told in facts}
    for _ in range(height):
        more = {(told, (told,)): 1 for told in facts}
        for head, number, below in every:
            parts = {(): 1}
            for told in below:
                longer = {}
                for one, many in parts.items():
                    for (other, mine), times in rows.items():
                        both = tuple(sorted(one + mine, key=brute.atom_rank))
                        if other == told and all([both.count(leaf) <= leaves.count(leaf) for leaf in both]):
                            longer[both] = longer.get(both, 0) + many * times
                parts = longer
            for mine, many in parts.items():
                more[(head, mine)] = more.get((head, mine), 0) + many
        rows = more
    return rows.get((fact, leaves), 0)


def tree_rank(rules, facts, tree):
    """What plain trees are ordered by, of one fact."""
    if tree[1] is None:
        return (-1,)
    steps = steps_for(rules, facts, tree[0])
    return (steps.index((tree[1], tuple([below[0] for below in tree[2]]))),
            [tree_rank(rules, facts, below) for below in tree[2]])


class Counts(unittest.TestCase):
    def test_counts(self):
        self.assertEqual([tree_count(WAY, EDGES, GOAL, most) for most in (0, 1, 2, 3, None)], [0, 1, 2, 2, 2])
        self.assertEqual(tree_count(rules=WAY, facts=EDGES, fact=["edge", "a", "b"]), 1)
        self.assertEqual(tree_count(WAY, EDGES, ("zz",)), 0)
        self.assertEqual(tree_count(WAY, EDGES, ("zz",), 3), 0)
        self.assertEqual(tree_count(WAY, EDGES, GOAL, 10 ** 17), 2)
        self.assertEqual([tree_count(RING, BACK, ("p", "a", "c"), most) for most in range(7)], [0, 0, 1, 2, 13, 338, 229165])
        self.assertIsNone(tree_count(RING, BACK, ("p", "a", "c"), None))
        self.assertEqual([tree_count(rules_of("p", "p if p", "q"), facts_of("p"), ("p",), most) for most in range(4)], [1, 3, 5, 7])
        self.assertEqual(tree_count(rules_of("p", "p if q", "q", "q"), facts_of("p", "q"), ("p",)), 5)

    def test_errors(self):
        for call in (tree_count, round_tree, plain_trees, lambda *told: trees_with(*told, None)):
            with self.assertRaises(HasNot) as caught:
                call(NOT, EDGES, None)
            self.assertEqual(caught.exception.index, 1)
            for thing in NO_FACTS:
                with self.assertRaises(NoFact) as caught:
                    call(WAY, EDGES, thing)
                self.assertIs(caught.exception.thing, thing)
        for thing in [most for most in odd_objects() if most is not None] + [-1, "1", [1]]:
            with self.assertRaises(BadNumber) as caught:
                tree_count(WAY, EDGES, GOAL, thing)
            self.assertIs(caught.exception.thing, thing)
        self.assertRaises(NoFact, tree_count, WAY, EDGES, 1, -1)

    def test_against_the_words(self):
        infinite = 0
        for seed in range(300):
            rules, facts = drawn(seed, 6)
            made, given = Rules(rules), Facts(facts)
            every = brute.steps(rules, facts)
            standing = brute.follows(rules, facts)
            for fact in sorted(standing, key=brute.atom_rank)[:5] + [("p", "zz")]:
                counts = [slow_count(every, facts, fact, height) for height in range(len(standing) + 5)]
                for most in range(4):
                    self.assertEqual(min(tree_count(made, given, fact, most), MANY), counts[most])
                told = tree_count(made, given, fact)
                # A tree higher than there are facts has one below itself.
                is_round = MANY == counts[-1] or slow_count(every, facts, fact, 2 * len(standing) + 8) != counts[-1]
                self.assertEqual(told, None if is_round else counts[-1])
                infinite += is_round
        self.assertGreater(infinite, 50)


class RoundTrees(unittest.TestCase):
    def test_round_trees(self):
        self.assertIsNone(round_tree(WAY, EDGES, GOAL))
        self.assertIsNone(round_tree(WAY, EDGES, ("zz",)))
        given = (("p",), None, ())
        self.assertEqual(round_tree(rules=rules_of("p if p"), facts=facts_of("p"), fact=["p"]), (("p",), 0, (given,)))
        rules = rules_of("q if p", "p if r", "r if s", "s if p", "s")
        tree = round_tree(rules, Facts([]), ("q",))
        self.assertEqual(height_of(tree), 7)
        self.assertTrue(is_tree(rules, Facts([]), ("q",), tree) and goes_round(tree))
        longer = rules_of("p if r", "r if s", "s if t", "t if u", "u if p", "s if p", "s", "t", "u")
        self.assertEqual(height_of(round_tree(longer, Facts([]), ("p",))), 6)
        self.assertEqual(kinds_of(round_tree(rules_of("p if p"), facts_of("p"), ("p",))), kinds_of((("p",), 0, (given,))))

    def test_against_the_words(self):
        many = 0
        for seed in range(400):
            rules, facts = drawn(seed, 6)
            made, given = Rules(rules), Facts(facts)
            found = {}
            every = brute.steps(rules, facts)
            for height in range(5):
                if sum([slow_count(every, facts, fact, height) for fact in brute.follows(rules, facts)]) > 2000:
                    break
                trees = all_trees(rules, facts, height)
                for fact, row in trees.items():
                    if any([goes_round(tree) for tree in row]):
                        found.setdefault(fact, height)
            for fact in sorted(brute.follows(rules, facts), key=brute.atom_rank)[:6]:
                tree = round_tree(made, given, fact)
                self.assertEqual(tree is None, tree_count(made, given, fact) is not None)
                if tree is not None:
                    self.assertTrue(is_tree(made, given, fact, tree) and goes_round(tree))
                    self.assertEqual(tree, round_tree(Rules(list(rules)), Facts(facts[::-1]), list(fact)))
                if fact in found:
                    many += 1
                    self.assertEqual(height_of(tree), found[fact])
                elif tree is not None:
                    self.assertGreaterEqual(height_of(tree), height)
        self.assertGreater(many, 60)


class PlainTrees(unittest.TestCase):
    def test_plain_trees(self):
        self.assertEqual(plain_trees(WAY, EDGES, GOAL), [
            (GOAL, 0, ((A_C, None, ()),)), (GOAL, 1, ((A_B, None, ()), (("way", "b", "c"), 0, ((B_C, None, ()),))))])
        self.assertEqual(plain_trees(rules=WAY, facts=EDGES, fact=["zz"]), [])
        self.assertEqual(plain_trees(rules_of("p if p", "p", "p if q", "q if p", "q"), facts_of("p"), ("p",)),
                         [(("p",), None, ()), (("p",), 1, ()), (("p",), 2, ((("q",), 4, ()),))])
        self.assertEqual(kinds_of(plain_trees(WAY, EDGES, GOAL)[:1]), kinds_of([(GOAL, 0, ((A_C, None, ()),))]))

    def test_the_order(self):
        rules = rules_of("z if p X, q Y", "p X if e X", "q X if e X", "p X if f X")
        told = plain_trees(rules, facts_of("e 2", "e b", "f b", "q 2"), ("z",))
        self.assertEqual([(tree[2][0][0][1], tree[2][0][1], tree[2][1][0][1], tree[2][1][1]) for tree in told], [
            (2, 1, 2, None), (2, 1, 2, 2), (2, 1, "b", 2), ("b", 1, 2, None), ("b", 1, 2, 2), ("b", 3, 2, None), ("b", 3, 2, 2),
            ("b", 1, "b", 2), ("b", 3, "b", 2)])

    def test_against_the_words(self):
        many = 0
        for seed in range(400):
            rules, facts = drawn(seed, 5)
            made, given = Rules(rules), Facts(facts)
            every = brute.steps(rules, facts)

            def slow(fact, above):
                found = [(fact, None, ())] if fact in facts else []
                for head, number, below in every:
                    if head == fact and not set(below) & (above | {fact}):
                        for trees in product(*[slow(other, above | {fact}) for other in below]):
                            found.append((fact, number, trees))
                return found

            if len(every) > 12:
                continue
            for fact in sorted(brute.follows(rules, facts), key=brute.atom_rank)[-4:]:
                told = plain_trees(made, given, fact)
                many += len(told) > 1
                self.assertEqual(set(told), set(slow(fact, set())))
                self.assertEqual(len(told), len(set(told)))
                ranks = [tree_rank(made, given, tree) for tree in told]
                self.assertEqual(ranks, sorted(ranks))
                sets = [tuple(sorted(set(leaves_of(tree)), key=brute.atom_rank)) for tree in told]
                for some in sets:
                    self.assertIn(fact, brute.follows(rules, some))
                for some in least_sets(made, given, fact):
                    self.assertIn(some, sets)
        self.assertGreater(many, 60)

    def test_where_one_has_no_tree_the_others_are_not_looked_for(self):
        rows = [("p", n, m) for n in range(6) for m in range(6) if n != m]
        rules = rules_of("w X Y if p X Y", "w X Z if w X Y, p Y Z", "u if w 0 1, w 1 2, t", "t if u", "u if p 0 1", "t if p 0 2")
        facts = Facts([row for row in rows if row[1] < 4 and row[2] < 4])
        self.assertEqual(len(plain_trees(rules, facts, ("t",))), 2)


class JustTheseLeaves(unittest.TestCase):
    def test_trees_with(self):
        self.assertEqual(trees_with(WAY, EDGES, GOAL, [(A_C, 1)]), 1)
        self.assertEqual(trees_with(rules=WAY, facts=EDGES, fact=GOAL, product=([list(B_C), 1], [A_B, 1])), 1)
        self.assertEqual(trees_with(WAY, EDGES, GOAL, ((A_B, 1),)), 0)
        self.assertEqual(trees_with(WAY, EDGES, GOAL, ()), 0)
        self.assertEqual(trees_with(WAY, EDGES, ("zz",), ()), 0)
        self.assertEqual(trees_with(WAY, EDGES, A_B, [(A_B, 1)]), 1)
        self.assertEqual([trees_with(RING, BACK, ("p", "a", "c"), [(A, 1 + n), (B, n), (C, 1)]) for n in (1, 2)
                          for A, B, C in [BACK.listed()]], [5, 42])

    def test_trees_of_any_height(self):
        rules = rules_of("p if p", "q if p", "p if r, n", "n", "n if n", "m if r, o", "o", "s if r, s", "s if r")
        facts = facts_of("r", "p")
        self.assertIsNone(trees_with(rules, facts, ("q",), [(("p",), 1)]))
        self.assertIsNone(trees_with(rules, facts, ("n",), []))
        self.assertIsNone(trees_with(rules, facts, ("p",), [(("r",), 1)]))
        self.assertEqual(trees_with(rules, facts, ("m",), [(("r",), 1)]), 1)
        self.assertEqual(trees_with(rules, facts, ("m",), [(("r",), 2)]), 0)
        self.assertEqual(trees_with(rules, facts, ("s",), [(("r",), 3)]), 1)
        self.assertEqual(trees_with(rules, facts, ("q",), [(("r",), 2)]), 0)

    def test_bad_products(self):
        for thing in odd_objects() + [[(A_B, 0)], [(A_B, 1), (A_B, 2)], [(A_B,)], [(A_B, True)], [(GOAL, 1)], [A_B], A_B,
                                      {A_B: 1}, [(A_B, 1), None], [(A_B, -1)], [(A_B, "1")], [("edge", 1)], [(A_B, 1, 1)],
                                      [(("edge", "a", True), 1)]]:
            if thing in ([], ()) and not isinstance(thing, (Facts, Rules)):
                continue
            with self.assertRaises(BadProduct) as caught:
                trees_with(WAY, EDGES, GOAL, thing)
            self.assertIs(caught.exception.thing, thing)
        self.assertRaises(NoFact, trees_with, WAY, EDGES, 1, 1)

    def test_against_the_words(self):
        kinds = [0, 0, 0]
        for seed in range(250):
            rules, facts = drawn(seed, 4)
            made, given = Rules(rules), Facts(facts)
            every = brute.steps(rules, facts)
            if len(every) > 14 or not facts:
                continue
            dice = Dice(seed)
            standing = sorted(brute.follows(rules, facts), key=brute.atom_rank)
            for fact in standing[-3:]:
                for _ in range(3):
                    some = dice.random.choices(facts, k=dice.random.randint(0, 3))
                    if dice.random.random() < 0.6:
                        some = leaves_of(dice.random.choice(plain_trees(made, given, fact))) + some[:dice.random.randint(0, 1)]
                    leaves = tuple(sorted(some, key=brute.atom_rank))
                    low, high = [slow_with(every, facts, fact, leaves, height) for height in (9, 12)]
                    told = trees_with(made, given, fact, [(leaf, leaves.count(leaf)) for leaf in dict.fromkeys(leaves)])
                    self.assertEqual(told, high if low == high else None, (rules, facts, fact, leaves))
                    kinds[0 if told is None else 1 if told == 0 else 2] += 1
        self.assertTrue(min(kinds) > 15, kinds)


class Limits(unittest.TestCase):
    def test_six_things(self):
        facts = Facts([("e", n, (n + 1) % 6) for n in range(6)] + [("e", (n + 1) % 6, n) for n in range(6)])
        goal = ("p", 0, 3)
        self.assertIsNone(tree_count(RING, facts, goal))
        self.assertGreater(tree_count(RING, facts, goal, 6), 10 ** 11)
        self.assertEqual(height_of(round_tree(RING, facts, ("p", 0, 1))), 3)
        one_way = Facts([("e", n, n + 1) for n in range(5)])
        self.assertEqual(len(plain_trees(RING, one_way, ("p", 0, 5))), 14)
        self.assertEqual(trees_with(RING, facts, ("p", 0, 4), [(("e", n, n + 1), 1) for n in range(4)]), 5)
        self.assertEqual(trees_with(RING, facts, ("p", 0, 0), [(("e", 0, 1), 2), (("e", 1, 0), 2)]), 5)


if __name__ == "__main__":
    unittest.main()
