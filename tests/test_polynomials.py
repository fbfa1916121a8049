"""Points [74], [80]: polynomials of plain trees, of trees up to a height, and what they are worth."""

import unittest

from rulehouse.errors import BadNumber, BadPolynomial, BadWorths, HasNot, NoFact
from rulehouse.facts import Facts
from rulehouse.polynomials import polynomial, polynomial_to, worth
from rulehouse.rules import Rules
from rulehouse.treecounts import plain_trees, tree_count, trees_with
from tests import brute
from tests.odd import facts_of, kinds_of, odd_objects, rules_of
from tests.test_following import NO_FACTS
from tests.test_reasons import A_B, A_C, B_C, EDGES, GOAL, NOT, WAY, choices, drawn
from tests.test_treecounts import BACK, RING, all_trees, leaves_of, slow_count

TWO = {((A_C, 1),): 1, ((A_B, 1), (B_C, 1)): 1}


def tallied(trees):
    found = {}
    for tree in trees:
        leaves = sorted(leaves_of(tree), key=brute.atom_rank)
        product = tuple([(leaf, leaves.count(leaf)) for leaf in dict.fromkeys(leaves)])
        found[product] = found.get(product, 0) + 1
    return found


def product_rank(product):
    return (sum([many for fact, many in product]), [brute.atom_rank(fact) for fact, many in product for _ in range(many)])


class Polynomials(unittest.TestCase):
    def test_polynomials(self):
        told = polynomial(WAY, EDGES, GOAL)
        self.assertEqual(list(told.items()), list(TWO.items()))
        self.assertEqual(polynomial(rules=WAY, facts=EDGES, fact=list(A_C)), {((A_C, 1),): 1})
        self.assertEqual(polynomial(WAY, EDGES, ("zz",)), {})
        self.assertEqual(polynomial(rules_of("p", "p", "p if q, q"), facts_of("p", "q"), ("p",)),
                         {(): 2, ((("p",), 1),): 1, ((("q",), 2),): 1})
        self.assertEqual(list(polynomial(rules_of("p", "p if q, q", "p if r"), facts_of("r", "q"), ("p",))),
                         [(), ((("r",), 1),), ((("q",), 2),)])
        self.assertEqual(kinds_of(told), kinds_of(TWO))
        told.clear()
        self.assertEqual(polynomial(WAY, EDGES, GOAL), TWO)

    def test_up_to_a_height(self):
        self.assertEqual([polynomial_to(WAY, EDGES, GOAL, height) for height in range(4)],
                         [{}, {((A_C, 1),): 1}, TWO, TWO])
        self.assertEqual(polynomial_to(rules=WAY, facts=EDGES, fact=list(GOAL), height=10 ** 17), TWO)
        self.assertEqual(polynomial_to(WAY, EDGES, ("zz",), 3), {})
        there, back, on = [(fact, 1) for fact in BACK.listed()]
        told = polynomial_to(RING, BACK, ("p", "a", "c"), 3)
        self.assertEqual(list(told.items()), [((there, on), 1), (((there[0], 2), back, on), 1)])
        self.assertEqual(kinds_of(told), kinds_of({((there, on)): 1, ((there, back, on)): 1}))

    def test_errors(self):
        for call in (polynomial, lambda *told: polynomial_to(*told, -1)):
            with self.assertRaises(HasNot) as caught:
                call(NOT, EDGES, None)
            self.assertEqual(caught.exception.index, 1)
            for thing in NO_FACTS:
                with self.assertRaises(NoFact) as caught:
                    call(WAY, EDGES, thing)
                self.assertIs(caught.exception.thing, thing)
        for thing in odd_objects() + [-1, "1", [1]]:
            with self.assertRaises(BadNumber) as caught:
                polynomial_to(WAY, EDGES, GOAL, thing)
            self.assertIs(caught.exception.thing, thing)

    def test_against_the_words(self):
        many = 0
        for seed in range(300):
            rules, facts = drawn(seed, 5)
            made, given = Rules(rules), Facts(facts)
            every = brute.steps(rules, facts)
            for fact in sorted(brute.follows(rules, facts), key=brute.atom_rank)[-3:]:
                told = polynomial(made, given, fact)
                self.assertEqual(told, tallied(plain_trees(made, given, fact)))
                self.assertEqual(list(told), sorted(told, key=product_rank))
                many += len(told) > 1
                for some in choices(facts)[::2]:
                    # The first polynomial, with 0 for the facts of a set and else 1, tells whether the set is a break.
                    left = [other for other in facts if other not in some]
                    self.assertEqual(worth(told, {other: 0 for other in some}) > 0, fact in brute.follows(rules, left))
                for height in range(4):
                    if slow_count(every, facts, fact, height) < 400:
                        to_height = polynomial_to(made, given, fact, height)
                        self.assertEqual(to_height, tallied(all_trees(rules, facts, height).get(fact, [])))
                        self.assertEqual(list(to_height), sorted(to_height, key=product_rank))
                        self.assertEqual(worth(to_height, {}), tree_count(made, given, fact, height))
                for product in list(told)[:2]:
                    self.assertTrue(trees_with(made, given, fact, product) is None
                                    or trees_with(made, given, fact, product) >= told[product])
        self.assertGreater(many, 40)


class Worth(unittest.TestCase):
    def test_worth(self):
        p, q = ("p",), ("q", 1)
        told = {(): 3, ((p, 2), (q, 1)): 2, ((q, 3),): 1}
        self.assertEqual(worth(told, {}), 6)
        self.assertEqual(worth(polynomial=told, worths={p: -3, q: 2, ("zz",): 9}), 3 + 2 * 9 * 2 + 8)
        self.assertEqual(worth({}, {p: 5}), 0)
        self.assertEqual(worth({((q, 1), (p, 2)): 2}, {q: 0}), 0)
        self.assertEqual(worth({((p, 40),): 1}, {p: 10 ** 9 - 1}), (10 ** 9 - 1) ** 40)

    def test_bad_polynomials(self):
        p = ("p",)
        for thing in [thing for thing in odd_objects() if thing != {}] + [
                {((p, 1),): 0}, {((p, 1),): True}, {((p, 1),): "1"}, {((p, 0),): 1}, {((p, True),): 1}, {(p,): 1}, {p: 1},
                {((p, 1), (p, 2)): 1}, {((p, 1), (("q",), 1)): 1, ((("q",), 1), (p, 1)): 1}, {((("X",), 1),): 1}, {"": 1},
                {((p, 1, 1),): 1}, {((("p", True), 1),): 1}, {None: 1}, [((p, 1),)], {(): -1}, {((("p", "X"), 1),): 1}]:
            with self.assertRaises(BadPolynomial) as caught:
                worth(thing, None)
            self.assertIs(caught.exception.thing, thing)

    def test_bad_worths(self):
        for thing in odd_objects():
            if not isinstance(thing, dict):
                with self.assertRaises(BadWorths) as caught:
                    worth(TWO, thing)
                self.assertIs(caught.exception.thing, thing)
            if not isinstance(thing, int) or isinstance(thing, bool):
                with self.assertRaises(BadWorths) as caught:
                    worth(TWO, {A_C: 1, A_B: thing, "x": 1})
                self.assertEqual(caught.exception.thing, A_B)
        for key in ("x", 7, None, True, (), ("X",), ("p", "X"), ("p", True), (("p",),)):
            with self.assertRaises(BadWorths) as caught:
                worth({}, {A_C: 1, key: 1, "zz": None})
            self.assertIs(caught.exception.thing, key)


class Limits(unittest.TestCase):
    def test_heights_to_six(self):
        told = polynomial_to(WAY, EDGES, GOAL, 6)
        self.assertEqual(told, TWO)
        row = Facts([("e", n, n + 1) for n in range(5)])
        self.assertEqual(polynomial_to(RING, row, ("p", 0, 5), 6), {tuple([(fact, 1) for fact in row.listed()]): 14})
        self.assertEqual(sum(polynomial_to(RING, BACK, ("p", "a", "c"), 6).values()), 229165)


if __name__ == "__main__":
    unittest.main()
