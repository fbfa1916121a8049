"""Points [52] to [58]: pairs that hold, rules that stand for others, companies, lean rules."""

import unittest

from rulehouse.company import (adds_nothing, company, holds, is_company, lean, may_stand_for, pair_against, parting_pair,
                               too_many)
from rulehouse.facts import Facts
from rulehouse.rules import Rules
from rulehouse.steady import is_steady, steady_worlds
from tests import brute
from tests.brute import Dice
from tests.odd import facts_of, kinds_of, odd_objects, rules_of

TWO = rules_of("p if q, not r", "p if q, r")
ONE = rules_of("p if q")
NONE = Facts([])
EMPTY = Rules([])


def slow_holds(rules, here, there):
    def match(found):
        for head, body in rules:
            for calls in brute.matches(found, body, ("not",)):
                if not any([brute.put(part[1], calls) in there for part in body if part[0] == "not"]):
                    yield brute.put(head, calls)

    return here <= there and set(match(there)) <= there and set(match(here)) <= here


def named(rules):
    return sorted({term for head, body in rules for part in [head] + list(body) for term in brute.terms_of(part)
                   if not brute.is_letter(term)}, key=brute.term_rank)


def all_facts(rules):
    """All facts that matter for least pairs: of relations and things of rules, and of new things."""
    letters = max([len(brute.letters_in(body)) for head, body in rules], default=0)
    things = named(rules) + [90 + n for n in range(letters)]
    kinds = {(atom[0], len(atom) - 1) for head, body in rules for atom in
             [head] + [part[1] if part[0] == "not" else part for part in body if part[0] != "unlike"]}
    return [(relation,) + told for relation, many in sorted(kinds) for told in brute.product(things, repeat=many)]


def all_pairs(rules):
    for there in brute.subsets(all_facts(rules)):
        for here in brute.subsets(there):
            yield here, there


def slow_sizes(rules, more):
    """The least (many in there, many in here) of pairs that hold for rules and not for more."""
    return min([(len(there), len(here)) for here, there in all_pairs(rules + more)
                if slow_holds(rules, here, there) and not slow_holds(more, here, there)], default=None)


def drawn(seed):
    """Two small lists of rules, with few facts to tell them apart."""
    dice = Dice(seed)
    if seed % 2:
        names = "abcde"[:2 + seed % 4]
        return [rule for rule in dice.flat(1 + seed % 4, names)[0]], [rule for rule in dice.flat(1 + seed % 3, names)[0]]
    kinds = {"p": 1, "q": 1, "r": 0} if seed % 4 else {"p": 1, "e": 2}
    things = ["a"] if seed % 4 else [1]
    letters = "XY" if seed % 3 and seed % 4 else "X"
    return tuple([[dice.rule(2, kinds, kinds, letters, things, ("not", "not", "unlike")) for _ in range(1 + seed % 3)]
                  for _ in range(2)])


class Pairs(unittest.TestCase):
    def test_holds(self):
        self.assertIs(holds(TWO, facts_of("q"), facts_of("p", "q", "r")), True)
        self.assertIs(holds(rules=ONE, here=facts_of("q"), there=facts_of("p", "q", "r")), False)
        self.assertIs(holds(TWO, facts_of("q", "r"), facts_of("q")), False)
        self.assertIs(holds(TWO, NONE, facts_of("q")), False)
        self.assertIs(holds(EMPTY, NONE, facts_of("q")), True)
        self.assertIs(holds(EMPTY, facts_of("q"), NONE), False)
        self.assertIs(holds(rules_of("p if not p"), NONE, facts_of("p")), True)
        self.assertIs(holds(rules_of("p if not p"), NONE, NONE), False)
        self.assertIs(holds(rules_of("p"), NONE, facts_of("p")), False)
        self.assertIs(holds(rules_of("p X if e X Y, not e Y X"), facts_of("e 1 2"), facts_of("e 1 2", "p 1")), False)
        self.assertIs(holds(rules_of("p X if e X Y, not e Y X"), facts_of("e 1 2"), facts_of("e 1 2", "e 2 1")), True)
        self.assertIs(holds(rules_of("p X if e X Y, unlike X Y"), facts_of("e 1 1"), facts_of("e 1 1")), True)

    def test_the_example(self):
        pair = (facts_of("q"), facts_of("p", "q", "r"))
        self.assertEqual(parting_pair(ONE, TWO), pair)
        self.assertEqual(parting_pair(one=TWO, other=ONE), pair)
        self.assertEqual(pair_against(rules=TWO, more=ONE), pair)
        self.assertIsNone(pair_against(ONE, TWO))
        self.assertIs(may_stand_for(one=ONE, other=TWO), False)
        self.assertIs(adds_nothing(rules=ONE, more=TWO), True)
        self.assertIs(adds_nothing(TWO, ONE), False)
        self.assertEqual(company(one=ONE, other=TWO), (rules_of("r if p", "p if r"), facts_of("q"), pair[1]))
        self.assertEqual(steady_worlds(ONE | rules_of("r if p", "p if r"), facts_of("q")), [pair[1]])
        self.assertEqual(steady_worlds(TWO | rules_of("r if p", "p if r"), facts_of("q")), [])

    def test_what_adds_nothing(self):
        rules = rules_of("p X if e X Y, not q X", "q 1")
        for more in (EMPTY, rules, rules_of("p X if e X Y, not q X, not r Y"), rules_of("p 1 if e 1 1, not q 1"),
                     rules_of("s X if s X, not t X"), rules_of("s if t, not t"), rules_of("s X if s X, e X Y"),
                     rules_of("s if e X X, unlike X X"), rules_of("s if not q 1"), rules_of("p 1 if unlike 1 1"),
                     rules_of("s Y if q X, t Y, not t Y")):
            self.assertIs(adds_nothing(rules, more), True, more.listed())
            self.assertIsNone(pair_against(rules, more))
        for more in (rules_of("p X if e X Y"), rules_of("p Y if e X Y, not q X"), rules_of("q 2"), rules_of("s"),
                     rules_of("s if not q 2"), rules_of("p X if q X")):
            self.assertIs(adds_nothing(rules, more), False, more.listed())

    def test_new_things(self):
        told = pair_against(rules_of("p 4 if q -3"), rules_of("p X if e X Y, unlike X 4, unlike X -3"))
        self.assertEqual(told[0], NONE)
        self.assertEqual([(fact[0], fact[1]) for fact in told[1].listed()], [("e", 5)])
        self.assertEqual(pair_against(EMPTY, rules_of("p X if e X Y, unlike X Y")), (NONE, facts_of("e 0 1")))

    def test_the_lesser_pair(self):
        self.assertEqual(parting_pair(rules_of("p if q, r"), rules_of("s if q")), (NONE, facts_of("q")))
        self.assertEqual(parting_pair(rules_of("s if q"), rules_of("p if q, r")), (NONE, facts_of("q")))
        first = parting_pair(rules_of("p if q"), rules_of("p if r"))
        self.assertEqual(first, (NONE, facts_of("r")))
        self.assertIsNone(parting_pair(ONE, ONE))
        self.assertIsNone(company(ONE, ONE))

    def test_least_pairs_against_the_words(self):
        both = 0
        for seed in range(500):
            one, other = drawn(seed)
            if len(all_facts(one + other)) > (6 if seed % 5 == 0 else 5):
                continue
            both += 1
            slow = slow_sizes(one, other)
            told = pair_against(Rules(one), Rules(other))
            self.assertEqual(adds_nothing(Rules(one), Rules(other)), slow is None)
            self.assertEqual(slow, None if told is None else (len(told[1]), len(told[0])), (one, other))
            if told is not None:
                here, there = set(told[0].listed()), set(told[1].listed())
                self.assertTrue(slow_holds(one, here, there) and not slow_holds(other, here, there))
                self.assertEqual(told, pair_against(Rules([list(rule) for rule in one]), Rules(tuple(other))))
        self.assertGreater(both, 150)

    def test_holds_against_the_words(self):
        for seed in range(150):
            rules = drawn(seed)[0]
            if len(all_facts(rules)) > 4:
                continue
            for here, there in all_pairs(rules):
                self.assertEqual(holds(Rules(rules), Facts(list(here)), Facts(list(there))),
                                 slow_holds(rules, here, there))


class Companies(unittest.TestCase):
    def test_against_the_words(self):
        kinds = [0, 0, 0]
        for seed in range(400):
            one, other = [Rules(rules) for rules in drawn(seed)]
            found = company(one, other)
            pair = parting_pair(one, other)
            pairs = (pair_against(one, other), pair_against(other, one))
            self.assertEqual(may_stand_for(one, other), found is None)
            self.assertEqual(pair is None, found is None)
            if found is None:
                kinds[0] += 1
                self.assertEqual(pairs, (None, None))
                continue
            sizes = [(len(told[1]), len(told[0])) for told in pairs if told is not None]
            self.assertEqual((len(pair[1]), len(pair[0])), min(sizes))
            if pairs[0] is not None and (len(pairs[0][1]), len(pairs[0][0])) == min(sizes):
                self.assertEqual(pair, pairs[0])
            self.assertTrue(is_company(one, other, found))
            self.assertTrue(is_company(one, other, list(found)))
            kinds[1 if len(found[0]) == 0 else 2] += 1
            self.assertEqual(found[2], pair[1])
            self.assertEqual(found[1], pair[1] if len(found[0]) == 0 else pair[0])
            beyond = (pair[1] - pair[0]).listed()
            if len(found[0]) > 0:
                self.assertEqual(found[0].listed(), [(beyond[(n + 1) % len(beyond)], (fact,)) for n, fact in
                                                     enumerate(beyond)])
            failing = other if holds(one, *pair) else one
            self.assertEqual(len(found[0]) == 0, not holds(failing, pair[1], pair[1]))
        self.assertTrue(min(kinds) > 10, kinds)

    def test_steady_worlds_are_least_pairs(self):
        for seed in range(100):
            rules = Rules(drawn(seed)[0])
            facts = set(all_facts(rules.listed())[:2])
            for world in list(brute.subsets(all_facts(rules.listed())[:5])):
                least = facts <= world and slow_holds(rules.listed(), world, world) and not any(
                    [facts <= here < world and slow_holds(rules.listed(), here, world) for here in brute.subsets(world)])
                self.assertEqual(is_steady(rules, Facts(list(facts)), Facts(list(world))), least)

    def test_is_company(self):
        world = facts_of("p", "q", "r")
        right = (rules_of("r if p", "p if r"), facts_of("q"), world)
        self.assertIs(is_company(one=TWO, other=ONE, thing=right), True)
        for thing in odd_objects() + [right[:2], right + (world,), (right[0], right[2], right[1]), (EMPTY, NONE, NONE),
                                      (right[0], right[1], facts_of("q")), (right[0].listed(),) + right[1:],
                                      (right[0], right[1].listed(), right[2]), (right[0], right[1], None),
                                      (right[1], right[1], world)]:
            self.assertIs(is_company(TWO, ONE, thing), False, thing)

    def test_what_can_not_be_made_is_none(self):
        one, other = rules_of("p if q"), rules_of("p if q", "s if p")
        facts = facts_of("q")
        self.assertIs(is_company(one, other, (rules_of("t 1"), facts, facts_of("q", "p", "t 1"))), True)
        self.assertIs(is_company(one, other, (rules_of("s 1"), facts, facts_of("q", "p", "s 1"))), False)
        self.assertIs(is_company(other, one, (rules_of("s 1"), facts, facts_of("q", "p", "s 1"))), False)

    def test_kinds(self):
        self.assertEqual(kinds_of(parting_pair(ONE, TWO)), ("tuple", ["Facts", "Facts"]))
        self.assertEqual(kinds_of(company(ONE, TWO)), ("tuple", ["Rules", "Facts", "Facts"]))


class Lean(unittest.TestCase):
    def test_too_many(self):
        rules = rules_of("p if q", "p if q, r", "p if q", "s if s, t", "u if v, not v", "w X if e X Y", "w 1 if e 1 2")
        self.assertEqual(too_many(rules), [0, 1, 2, 3, 4, 6])
        self.assertEqual(lean(rules), rules_of("p if q", "w X if e X Y"))
        self.assertEqual((too_many(rules=EMPTY), lean(rules=EMPTY)), ([], EMPTY))
        self.assertEqual(lean(rules_of("p if q", "p if q, not r")), ONE)
        self.assertEqual(lean(rules_of("p if q, not r", "p if q, r")), TWO)
        self.assertEqual(lean(rules_of("p if q, not p", "p if q")), ONE)

    def test_the_last_of_alike_ones_is_left(self):
        rules = rules_of("a if b", "p X if q X", "c if d", "p Y if q Y")
        self.assertEqual(lean(rules), rules_of("a if b", "c if d", "p Y if q Y"))

    def test_drawn(self):
        for seed in range(150):
            one, other = drawn(seed)
            rules = Rules(one + other)
            told = lean(rules)
            self.assertTrue(may_stand_for(told, rules))
            self.assertEqual(too_many(told), [])
            self.assertEqual(too_many(rules), [number for number in range(len(rules)) if adds_nothing(
                rules.without(number), Rules([rules.listed()[number]]))])
            left = rules
            for rule in rules.listed():
                at = left.listed().index(rule)
                if adds_nothing(left.without(at), Rules([rule])):
                    left = left.without(at)
            self.assertEqual(told, left)


class Limits(unittest.TestCase):
    def test_three_letters_and_four_things(self):
        rules = rules_of("p X Z if e X Y, e Y Z, not q X Z", "q X Z if e X Y, e Y Z, not p X Z", "e a b", "e 1 c if r",
                         "r if p X X", "s X if e X Y, e Y X, not r, unlike X Y")
        more = rules_of("p X Z if e X Y, e Y Z, e Z X, not q X Z, unlike X a", "r if e X Y, e Y Z, not e X Z, r",
                        "s X if e X Y, e Y X, e Y Z, not r, unlike X Y", "q 1 Z if e 1 Y, e Y Z, not p 1 Z")
        self.assertIs(adds_nothing(rules, more), True)
        told = pair_against(rules, more | rules_of("r if e X Y, e Y Z, e Z X, unlike X Y, unlike Y Z, unlike X Z, not q X X"))
        self.assertTrue(holds(rules, *told))
        self.assertFalse(holds(more, *told) and holds(rules_of("r if e X Y, e Y Z, e Z X, unlike X Y, unlike Y Z, "
                                                               "unlike X Z, not q X X"), *told))

    def test_ten_facts_of_which_some_are_taken(self):
        rules = Rules([(("a" + str(n),), (("p",), ("not", ("b" + str(n),)))) for n in range(10)])
        self.assertEqual(pair_against(rules, rules_of("c if p")), (NONE, Facts([("p",)] + [("a" + str(n),) for n in range(10)])))
        all_ten = rules_of("c if " + ", ".join(["not a" + str(n) for n in range(10)]) + ", p")
        world = Facts([("p",)] + [("b" + str(n),) for n in range(10)])
        self.assertEqual(pair_against(rules, all_ten)[1], world)


if __name__ == "__main__":
    unittest.main()
