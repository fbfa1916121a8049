"""Points [59], [65]: worths, the papers that show that a fact has no cheaper tree."""

import unittest
from itertools import product

from rulehouse.costs import costs
from rulehouse.facts import Facts
from rulehouse.rules import Rules
from rulehouse.worths import are_worths, worths_for
from tests import brute
from tests.brute import Dice
from tests.odd import facts_of, kinds_of, odd_objects, rules_of
from tests.test_costs import A_B, A_C, EDGES, FEES, PRICES, WAY, drawn

INFINITE = 10 ** 30


def number(worth):
    return INFINITE if worth is None else worth


def slow_holds(rules, facts, prices, fees, worths):
    if any([number(worths.get(fact, 0)) > prices[fact] for fact in facts]):
        return False
    things = brute.things_in(list(facts) + list(worths) + [
        ("x",) + tuple([term for part in [head] + list(body) for term in brute.terms_of(part) if not brute.is_letter(term)])
        for head, body in rules])
    for fee, (head, body) in zip(fees, rules):
        letters = brute.letters_in(body)
        for told in product(things, repeat=len(letters)):
            calls = dict(zip(letters, told))
            if not all([brute.holds(part, calls, ()) for part in body if part[0] == "unlike"]):
                continue
            most = fee + sum([number(worths.get(brute.put(atom, calls), 0)) for atom in brute.plain(body)])
            worth = number(worths.get(brute.put(head, calls), 0))
            # A sum with one that is more than all numbers is so, too.
            if worth > most and not (worth >= INFINITE and most >= INFINITE):
                return False
    return True


class Worths(unittest.TestCase):
    def test_are_worths(self):
        goal = ("way", "a", "c")
        self.assertIs(are_worths(facts=EDGES, rules=WAY, prices=PRICES, fees=FEES, thing={}), True)
        self.assertIs(are_worths(EDGES, WAY, PRICES, FEES, {A_B: 3}), True)
        self.assertIs(are_worths(EDGES, WAY, PRICES, FEES, {A_B: 4}), False)
        self.assertIs(are_worths(EDGES, WAY, PRICES, FEES, {A_B: None}), False)
        self.assertIs(are_worths(EDGES, WAY, PRICES, FEES, {goal: 1}), True)
        self.assertIs(are_worths(EDGES, WAY, PRICES, FEES, {goal: 2}), False)
        self.assertIs(are_worths(EDGES, WAY, PRICES, FEES, {goal: None}), False)
        told = worths_for(facts=EDGES, rules=WAY, prices=PRICES, fees=FEES, fact=list(goal))
        self.assertEqual(told[goal], 9)
        self.assertIs(are_worths(EDGES, WAY, PRICES, FEES, told), True)
        self.assertIs(are_worths(EDGES, WAY, PRICES, FEES, {**told, goal: 10}), False)
        self.assertIs(are_worths(EDGES, WAY, PRICES, FEES, {**told, A_C: 2}), False)

    def test_things_of_keys_count(self):
        rules = rules_of("p if q X", "r X if s X")
        self.assertIs(are_worths(Facts([]), rules, {}, [1, 1], {("p",): 2}), True)
        self.assertIs(are_worths(Facts([]), rules, {}, [1, 1], {("p",): 2, ("r", 5): 0}), False)
        self.assertIs(are_worths(Facts([]), rules, {}, [1, 1], {("p",): 2, ("q", 5): 1}), True)
        self.assertIs(are_worths(Facts([]), rules, {}, [1, 1], {("p",): 2, ("q", 5): 1, ("q", 6): 0}), False)
        self.assertIs(are_worths(facts_of("t 6"), rules, {("t", 6): 0}, [1, 1], {("p",): None, ("q", 6): None}), True)

    def test_unlikes(self):
        rules = rules_of("p if q X, q Y, unlike X Y", "t if unlike 1 1", "u if unlike 1 2")
        worths = {("q", 1): 3, ("q", 2): 4, ("p",): 9}
        self.assertIs(are_worths(Facts([]), rules, {}, [2, 0, 5], worths), True)
        self.assertIs(are_worths(Facts([]), rules, {}, [1, 0, 5], worths), False)
        self.assertIs(are_worths(Facts([]), rules, {}, [1, 0, 5], {("t",): None}), True)
        self.assertIs(are_worths(Facts([]), rules, {}, [1, 0, 5], {("u",): 5}), True)
        self.assertIs(are_worths(Facts([]), rules, {}, [1, 0, 5], {("u",): 6}), False)
        self.assertIs(are_worths(Facts([]), rules_of("p if q, q"), {}, [1], {("p",): 7, ("q",): 3}), True)
        self.assertIs(are_worths(Facts([]), rules_of("p if q, q"), {}, [1], {("p",): None, ("q",): None}), True)

    def test_objects_of_all_kinds(self):
        for thing in odd_objects():
            self.assertIs(are_worths(EDGES, WAY, PRICES, FEES, thing), thing == {} and isinstance(thing, dict), thing)
            if thing is not None and (isinstance(thing, bool) or not isinstance(thing, int)):
                self.assertIs(are_worths(EDGES, WAY, PRICES, FEES, {("p",): thing}), False)
            if thing is None or isinstance(thing, (str, bool)):
                self.assertIs(are_worths(EDGES, WAY, PRICES, FEES, {thing: 0}), False)
        for key in ((), (1,), ("p", "X"), ("p", True), ("not", "a"), 7, (("p",),)):
            self.assertIs(are_worths(EDGES, WAY, PRICES, FEES, {key: 0}), False)
        self.assertIs(are_worths(EDGES, WAY, PRICES, FEES, {("p",): -1}), False)

    def test_no_tree(self):
        for fact in (("way", "c", "a"), ("zz",), ("way", "a", 7), ("edge", "c", "c")):
            told = worths_for(EDGES, WAY, PRICES, FEES, fact)
            self.assertIsNone(told[fact])
            self.assertIs(are_worths(EDGES, WAY, PRICES, FEES, told), True)
        self.assertEqual(worths_for(Facts([]), Rules([]), {}, [], ("p", 1)), {("p", 1): None})
        self.assertEqual(worths_for(facts_of("p"), Rules([]), {("p",): 4}, [], ["p"]), {("p",): 4})
        self.assertEqual(kinds_of(worths_for(facts_of("p"), Rules([]), {("p",): 4}, [], ["p"])), kinds_of({("p",): 4}))

    def test_against_the_words(self):
        held = 0
        for seed in range(300):
            rules, facts, prices, fees = drawn(seed)
            made, given = Rules(rules), Facts(facts)
            least = costs(given, made, prices, fees)
            for fact in list(least)[-4:] + [("p", "zz"), ("q", "a", 3)]:
                told = worths_for(given, made, prices, fees, fact)
                self.assertEqual(told[fact], least.get(fact))
                self.assertTrue(slow_holds(rules, facts, prices, fees, told))
                self.assertTrue(are_worths(given, made, prices, fees, told))
                self.assertEqual(told, worths_for(Facts(facts[::-1]), Rules([list(rule) for rule in rules]),
                                                  dict(list(prices.items())[::-1]), tuple(fees), list(fact)))
            dice = Dice(seed)
            for _ in range(3):
                worths = {dice.fact({"p": 1, "q": 2, "r": 1, "e": 2, "f": 1}, ["a", 3, 8]): dice.random.choice((0, 1, 2, None))
                          for _ in range(dice.random.randint(0, 4))}
                is_one = slow_holds(rules, facts, prices, fees, worths)
                self.assertEqual(are_worths(given, made, prices, fees, worths), is_one, (rules, facts, prices, fees, worths))
                held += is_one and len(worths) > 1
                if is_one:
                    for fact, worth in worths.items():
                        self.assertLessEqual(number(worth), number(least.get(fact)))
        self.assertGreater(held, 30)


class Limits(unittest.TestCase):
    def test_eight_rules_of_four_letters(self):
        rules = rules_of(*["p X Y Z if q X Y W, q Y Z W, q X Z W, p W Y Z", "q X Y Z if p X Y W, p W Y Z"] * 4)
        facts = Facts([("q", n % 6, n % 5, n % 4) for n in range(30)])
        prices = {fact: 10 ** 9 - 1 for fact in facts.listed()}
        told = worths_for(facts, rules, prices, [1] * 8, ("p", 0, 1, 2))
        self.assertIs(are_worths(facts, rules, prices, [1] * 8, told), True)
        self.assertIsNone(told[("p", 0, 1, 2)])


if __name__ == "__main__":
    unittest.main()
