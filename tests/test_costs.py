"""Points [59], [64], [66], [67]: costs of trees, the cheapest ones, and lines of prices."""

import unittest
from fractions import Fraction

from rulehouse.costs import cheapest, cost_line, costs, tree_cost
from rulehouse.errors import BadFees, BadPrices, HasNot, NoFact, NotGiven
from rulehouse.facts import Facts
from rulehouse.following import what_follows
from rulehouse.rules import Rules
from rulehouse.trees import is_tree, tree_of
from rulehouse.worths import are_worths, worths_for
from tests import brute
from tests.brute import Dice
from tests.odd import facts_of, kinds_of, odd_objects, rules_of
from tests.test_following import NO_FACTS

WAY = rules_of("way X Y if edge X Y", "way X Z if way X Y, way Y Z")
EDGES = facts_of("edge a b", "edge b c", "edge a c")
A_B, A_C, B_C = ("edge", "a", "b"), ("edge", "a", "c"), ("edge", "b", "c")
PRICES = {A_B: 3, A_C: 10, B_C: 1}
FEES = [2, 1]
FIVE = (("way", "a", "b"), 0, ((A_B, None, ()),))
NOT = rules_of("p", "q if not r")
NO_PRICES = [thing for thing in odd_objects() if not isinstance(thing, int) or isinstance(thing, bool)] + [-1, (1,), "1"]


def leaves(tree):
    return sum([leaves(below) for below in tree[2]]) or 1


def slow_cost(tree, prices, fees):
    if tree[1] is None:
        return prices[tree[0]]
    return fees[tree[1]] + sum([slow_cost(below, prices, fees) for below in tree[2]])


def slow_least(rules, facts, prices, fees):
    """The dict from facts to the least (cost, leaves), by raising nothing and lowering till nothing changes."""
    every = brute.steps(rules, facts)
    least = {fact: (prices[fact], 1) for fact in facts}
    while True:
        more = dict(least)
        for head, number, below in every:
            if all([fact in least for fact in below]):
                told = (fees[number] + sum([least[fact][0] for fact in below]),
                        sum([least[fact][1] for fact in below]) if below else 1)
                more[head] = min(told, more.get(head, told))
        if more == least:
            return least
        least = more


def drawn(seed):
    dice = Dice(seed)
    rules, facts = dice.program(1 + seed % 6)
    facts = sorted(set(facts), key=brute.atom_rank)
    prices = {fact: dice.random.choice((0, 1, 2, 5, 9)) for fact in facts}
    return rules, facts, prices, [dice.random.choice((0, 0, 1, 3)) for _ in rules]


def calls_with_prices(*rest):
    """All calls that look through prices and fees, with what else they are asked."""
    return [lambda *told: tree_cost(*told, FIVE), costs, lambda *told: cheapest(*told, FIVE[0]),
            lambda *told: cost_line(*told, FIVE[0], A_B), lambda *told: are_worths(*told, {}),
            lambda *told: worths_for(*told, FIVE[0])]


class Prices(unittest.TestCase):
    def test_bad_prices(self):
        for call in calls_with_prices():
            with self.assertRaises(HasNot) as caught:
                call(EDGES, NOT, None, None)
            self.assertEqual(caught.exception.index, 1)
            for thing in odd_objects():
                if not isinstance(thing, dict):
                    with self.assertRaises(BadPrices) as caught:
                        call(EDGES, WAY, thing, None)
                    self.assertIs(caught.exception.thing, thing)
            for prices, key in (({**PRICES, ("edge", "z", "z"): 1}, ("edge", "z", "z")), ({"x": 1, **PRICES}, "x"),
                                ({A_B: 3, B_C: 1}, A_C), ({}, A_B), ({B_C: True, A_B: -1, A_C: 1}, B_C),
                                ({A_C: 1, A_B: -1, None: 3}, A_B), ({None: 3, A_B: -1}, None), ({True: 1}, True)):
                with self.assertRaises(BadPrices) as caught:
                    call(EDGES, WAY, prices, None)
                self.assertIs(caught.exception.thing, key) if key in prices else self.assertEqual(caught.exception.thing, key)
            for worth in NO_PRICES:
                with self.assertRaises(BadPrices) as caught:
                    call(EDGES, WAY, {**PRICES, B_C: worth}, FEES)
                self.assertEqual(caught.exception.thing, B_C)
            self.assertRaises(BadPrices, call, facts_of("p 1"), WAY, {("p", True): 1}, FEES)

    def test_bad_fees(self):
        for call in calls_with_prices():
            for fees, index in (([], 0), ([2], 1), ([2, 1, 1], 2), ([2, 1, None], 2), ([2, -1], 1), ((True, 1), 0),
                                ([2, "1", 5, 5], 1), ([2, 1, 1, 1], 2)):
                with self.assertRaises(BadFees) as caught:
                    call(EDGES, WAY, PRICES, fees)
                self.assertEqual(caught.exception.index, index)
            for thing in odd_objects():
                if not isinstance(thing, (list, tuple)):
                    with self.assertRaises(BadFees) as caught:
                        call(EDGES, WAY, PRICES, thing)
                    self.assertEqual(caught.exception.index, 0)
                if not isinstance(thing, int) or isinstance(thing, bool):
                    with self.assertRaises(BadFees) as caught:
                        call(EDGES, WAY, PRICES, [2, thing])
                    self.assertEqual(caught.exception.index, 1)

    def test_facts_come_behind(self):
        for call in (cheapest, worths_for, lambda *told: cost_line(*told, None)):
            self.assertRaises(BadFees, call, EDGES, WAY, PRICES, [], 1)
            for thing in NO_FACTS:
                with self.assertRaises(NoFact) as caught:
                    call(EDGES, WAY, PRICES, FEES, thing)
                self.assertIs(caught.exception.thing, thing)
        for thing in odd_objects() + [FIVE[0], ("edge", "a", "z"), "edge"]:
            with self.assertRaises(NotGiven) as caught:
                cost_line(EDGES, WAY, PRICES, FEES, ("zz",), thing)
            self.assertIs(caught.exception.thing, thing)


class Costs(unittest.TestCase):
    def test_the_example(self):
        rules, facts = rules_of("way X Y if edge X Y"), facts_of("edge a b")
        told = costs(facts=facts, rules=rules, prices={A_B: 3}, fees=(2,))
        self.assertEqual(told, {A_B: 3, ("way", "a", "b"): 5})
        self.assertEqual(tree_cost(facts=facts, rules=rules, prices={A_B: 3}, fees=[2], thing=FIVE), 5)
        self.assertEqual(cheapest(facts, rules, {A_B: 3}, [2], ["way", "a", "b"]), (5, FIVE))

    def test_costs(self):
        told = costs(EDGES, WAY, PRICES, FEES)
        self.assertEqual(told, {**PRICES, ("way", "a", "b"): 5, ("way", "a", "c"): 9, ("way", "b", "c"): 3})
        self.assertEqual(list(told), what_follows(WAY, EDGES).listed())
        self.assertEqual(costs(Facts([]), Rules([]), {}, []), {})
        self.assertEqual(costs(facts_of("p"), rules_of("p", "q", "r if p, p, q"), {("p",): 7}, [4, 2, 0]),
                         {("p",): 4, ("q",): 2, ("r",): 10})

    def test_tree_cost(self):
        given = (("p",), None, ())
        rules, facts, prices, fees = rules_of("p if p", "p", "q if p, p"), facts_of("p"), {("p",): 7}, [4, 2, 1]
        for tree, cost in ((given, 7), ((("p",), 0, (given,)), 11), ((("p",), 0, [(("p",), 1, [])]), 6),
                           ((("q",), 2, (given, (["p"], 1, ()))), 10), ((("q",), 2, (given, given)), 15)):
            self.assertEqual(tree_cost(facts, rules, prices, fees, tree), cost)
        for thing in odd_objects() + [FIVE, (("q",), 2, (given,)), (("p",), 0, ((("p",), None, (given,)),)), given[:2]]:
            self.assertIsNone(tree_cost(facts, rules, prices, fees, thing))

    def test_as_few_leaves_as_can_be(self):
        rules = rules_of("z if a, b", "z if c", "z if a", "a", "b", "c if a, b")
        self.assertEqual(cheapest(Facts([]), rules, {}, [0, 0, 0, 0, 0, 0], ("z",)), (0, (("z",), 2, ((("a",), 3, ()),))))
        self.assertEqual(cheapest(Facts([]), rules, {}, [0, 0, 9, 2, 1, 0], ("z",))[0], 3)
        self.assertEqual(cheapest(facts_of("a"), rules, {("a",): 2}, [0, 0, 0, 2, 0, 0], ("a",))[0], 2)
        self.assertIsNone(cheapest(Facts([]), rules, {}, [0] * 6, ("y",)))

    def test_leaves_count_and_not_steps(self):
        rules = rules_of("z if a, b", "z if c", "c if d", "d if e", "e if a")
        facts, prices = facts_of("a", "b"), {("a",): 0, ("b",): 0}
        self.assertEqual(leaves(cheapest(facts, rules, prices, [0] * 5, ("z",))[1]), 1)
        bare = rules_of("z if a, b", "z if c", "c if d", "d")
        self.assertEqual(leaves(cheapest(facts, bare, prices, [0] * 4, ("z",))[1]), 1)
        given = rules_of("z if c, d", "c", "d", "z if m", "m if n", "n if o", "o if a")
        self.assertEqual(cheapest(facts, given, prices, [0] * 7, ("z",))[1][1], 3)

    def test_kinds(self):
        self.assertEqual(kinds_of(cheapest(EDGES, WAY, PRICES, FEES, ["way", "a", "b"])), kinds_of((5, FIVE)))

    def test_against_the_words(self):
        for seed in range(400):
            rules, facts, prices, fees = drawn(seed)
            slow = slow_least(rules, facts, prices, fees)
            made, given = Rules(rules), Facts(facts)
            told = costs(given, made, prices, fees)
            self.assertEqual(told, {fact: cost for fact, (cost, many) in slow.items()})
            self.assertEqual(list(told), sorted(told, key=brute.atom_rank))
            for fact in list(told)[:8] + [("p", "zz")]:
                pair = cheapest(given, made, prices, fees, fact)
                self.assertEqual(pair is None, fact not in told)
                if pair is not None:
                    cost, tree = pair
                    self.assertTrue(is_tree(made, given, fact, tree))
                    self.assertEqual((cost, leaves(tree)), slow[fact])
                    self.assertEqual(tree_cost(given, made, prices, fees, tree), cost)
                    self.assertEqual(slow_cost(tree, prices, fees), cost)
                    self.assertEqual(pair, cheapest(Facts(facts[::-1]), Rules([list(rule) for rule in rules]),
                                                    {fact: prices[fact] for fact in facts[::-1]}, tuple(fees), list(fact)))
                    other = tree_of(made, given, fact)
                    self.assertEqual(tree_cost(given, made, prices, fees, other), slow_cost(other, prices, fees))


class Lines(unittest.TestCase):
    def test_lines(self):
        self.assertEqual(cost_line(EDGES, WAY, PRICES, FEES, ("way", "a", "c"), A_B), [((0, 1), (6, 1), 1), ((6, 1), (12, 1), 0)])
        self.assertEqual(cost_line(facts=EDGES, rules=WAY, prices=PRICES, fees=FEES, fact=A_B, given=list(A_B)),
                         [((0, 1), (0, 1), 1)])
        self.assertEqual(cost_line(EDGES, WAY, PRICES, FEES, A_C, A_B), [((0, 1), (10, 1), 0)])
        self.assertIsNone(cost_line(EDGES, WAY, PRICES, FEES, ("way", "c", "a"), A_B))
        rules = rules_of("z if a, a, a", "z if a, c", "z if b", "b if c, c, c")
        facts = facts_of("a", "c")
        told = cost_line(facts, rules, {("a",): 3, ("c",): 5}, [0, 0, 0, 0], ("z",), ("a",))
        self.assertEqual(told, [((0, 1), (0, 1), 3), ((5, 2), (15, 2), 1), ((10, 1), (15, 1), 0)])
        self.assertEqual(kinds_of(told), ("list", [("tuple", [("tuple", ["int"] * 2), ("tuple", ["int"] * 2), "int"])] * 3))
        # Where lines meet in one point the ones between are not told.
        self.assertEqual(cost_line(facts, rules_of("z if a, a", "z if a, c", "z if c, c"), {("a",): 3, ("c",): 0},
                                   [0, 1, 2], ("z",), ("a",)), [((0, 1), (0, 1), 2), ((1, 1), (2, 1), 0)])

    def test_a_fact_that_is_given_and_made(self):
        rules = rules_of("a if c", "z if a, a")
        self.assertEqual(cost_line(facts_of("a", "c"), rules, {("a",): 0, ("c",): 4}, [1, 0], ("z",), ("a",)),
                         [((0, 1), (0, 1), 2), ((5, 1), (10, 1), 0)])
        self.assertEqual(cost_line(facts_of("a"), rules_of("a", "a if a"), {("a",): 9}, [0, 0], ("a",), ("a",)),
                         [((0, 1), (0, 1), 0)])

    def test_against_costs_at_many_prices(self):
        bends = 0
        for seed in range(400):
            rules, facts, prices, fees = drawn(seed)
            made, given = Rules(rules), Facts(facts)
            told = list(costs(given, made, prices, fees))
            for fact in told[-3:]:
                for one in facts[:2]:
                    line = cost_line(given, made, prices, fees, fact, one)
                    bends += len(line) - 1
                    self.assertEqual(line[0][0], (0, 1))
                    for ahead, behind in zip(line, line[1:]):
                        self.assertLess(Fraction(*ahead[0]), Fraction(*behind[0]))
                        self.assertGreater(ahead[2], behind[2])
                    for price in (0, 1, 2, 3, 5, 8, 13, 29):
                        where, cost, times = [row for row in line if Fraction(*row[0]) <= price][-1]
                        slow = slow_least(rules, facts, {**prices, one: price}, fees)[fact][0] if seed % 10 == 0 else (
                            costs(given, made, {**prices, one: price}, fees)[fact])
                        self.assertEqual(Fraction(*cost) + times * (price - Fraction(*where)), slow)
                    for where, cost, times in line:
                        self.assertTrue(Fraction(*where).denominator == where[1] and Fraction(*cost).denominator == cost[1])
        self.assertGreater(bends, 30)


class Limits(unittest.TestCase):
    def test_a_thousand_leaves(self):
        rules = Rules([(("p", "X", "Z"), (("p", "X", "Y"), ("p", "Y", "Z"))), (("q",), (("p", 0, 5),) * 4),
                       (("r",), (("q",),) * 4), (("s",), (("r",),) * 4), (("t",), (("s",), ("s",), ("s",)))])
        facts = Facts([("p", n, n + 1) for n in range(5)])
        prices = {fact: 10 ** 9 - 1 for fact in facts.listed()}
        cost, tree = cheapest(facts, rules, prices, [10 ** 9 - 1] * 5, ("t",))
        self.assertEqual(leaves(tree), 5 * 192)
        self.assertEqual(tree_cost(facts, rules, prices, [10 ** 9 - 1] * 5, tree), cost)
        self.assertEqual(cost_line(facts, rules, prices, [1] * 5, ("t",), ("p", 0, 1))[0][2], 192)

    def test_a_high_tree(self):
        rules = rules_of("p X Y U if p X Y Z, n Z U", "p X Y a if p X Z f, n Z Y", "p Y a a if p X f f, n X Y")
        row = "abcdef"
        facts = Facts([("n", one, other) for one, other in zip(row, row[1:])] + [("p", "a", "a", "a")])
        prices = {fact: 1 for fact in facts.listed()}
        cost, tree = cheapest(facts, rules, prices, [0, 0, 0], ("p", "f", "f", "f"))
        self.assertEqual((cost, leaves(tree)), (216, 216))
        self.assertEqual(tree_cost(facts, rules, prices, [0, 0, 0], tree), 216)

    def test_many_bends(self):
        rows = ["z if " + ", ".join(["a"] * (n % 4) + ["b"] * (n // 4)) for n in range(1, 9) if n % 4 + n // 4 <= 4]
        told = cost_line(facts_of("a", "b"), rules_of(*rows), {("a",): 1, ("b",): 9}, list(range(len(rows), 0, -1)), ("z",), ("a",))
        self.assertEqual(told[0][0], (0, 1))
        self.assertEqual(told[-1][2], 0)


if __name__ == "__main__":
    unittest.main()
