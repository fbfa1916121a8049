"""Points [68], [76] to [80]: levels, chances, splits and shares."""

import unittest
from fractions import Fraction
from itertools import permutations, product

from rulehouse.chances import chance, chance_given, is_splits, level, level_papers, shares, splits
from rulehouse.errors import BadChances, BadFact, BadLevels, HasNot, NoFact
from rulehouse.facts import Facts
from rulehouse.reasons import is_least_break, least_breaks
from rulehouse.rules import Rules
from rulehouse.trees import is_tree
from tests import brute
from tests.brute import Dice
from tests.odd import facts_of, kinds_of, odd_objects, rules_of
from tests.test_following import NO_FACTS
from tests.test_reasons import A_B, A_C, B_C, EDGES, GOAL, NOT, WAY, choices, drawn, slow_follows
from tests.test_treecounts import leaves_of

HALVES = {A_B: (1, 2), A_C: (1, 2), B_C: (1, 2)}
LEVELS = {A_B: 3, A_C: 1, B_C: -2}
FREE = rules_of("p", "q if e")


def weight(chances, facts, some):
    found = Fraction(1)
    for fact in facts:
        found *= Fraction(*chances[fact]) if fact in some else 1 - Fraction(*chances[fact])
    return found


def pair(fraction):
    return (fraction.numerator, fraction.denominator)


class Levels(unittest.TestCase):
    def test_levels(self):
        self.assertEqual(level(WAY, EDGES, GOAL, LEVELS), 1)
        self.assertEqual(level(rules=WAY, facts=EDGES, fact=list(GOAL), levels={A_B: 3, A_C: -7, B_C: -2}), -2)
        self.assertEqual(level(WAY, EDGES, A_B, LEVELS), 3)
        self.assertIsNone(level(WAY, EDGES, ("zz",), LEVELS))
        self.assertEqual(level(FREE, facts_of("p", "e"), ("p",), {("p",): 1, ("e",): 2}), "any")
        self.assertIsNone(level_papers(FREE, facts_of("p", "e"), ("p",), {("p",): 1, ("e",): 2}))
        self.assertIsNone(level_papers(WAY, EDGES, ("zz",), LEVELS))
        tree, some = level_papers(rules=WAY, facts=EDGES, fact=GOAL, levels=LEVELS)
        self.assertEqual(tree, (GOAL, 0, ((A_C, None, ()),)))
        self.assertEqual(some, (A_C, B_C))
        self.assertEqual(kinds_of((tree, some)), kinds_of(level_papers(WAY, EDGES, GOAL, LEVELS)))

    def test_against_the_words(self):
        many = 0
        for seed in range(300):
            rules, facts = drawn(seed)
            made, given = Rules(rules), Facts(facts)
            dice = Dice(seed)
            levels = {fact: dice.random.choice((-1, 0, 0, 2, 5)) for fact in facts}
            follows = slow_follows(rules, facts)
            for fact in sorted(follows[tuple(facts)], key=brute.atom_rank)[-3:] + [("p", "zz")]:
                reached = [min([levels[one] for one in some], default=99) for some in follows if fact in follows[some]]
                told = level(made, given, fact, levels)
                self.assertEqual(told, None if not reached else "any" if max(reached) == 99 else max(reached))
                papers = level_papers(made, given, fact, levels)
                self.assertEqual(papers is None, told in (None, "any"))
                if papers is not None:
                    many += 1
                    tree, some = papers
                    self.assertTrue(is_tree(made, given, fact, tree))
                    self.assertTrue(all([levels[leaf] >= told for leaf in leaves_of(tree)]))
                    self.assertTrue(is_least_break(made, given, fact, some))
                    self.assertTrue(all([levels[one] <= told for one in some]))
                    self.assertEqual(papers, level_papers(Rules(list(rules)), Facts(facts[::-1]), list(fact),
                                                          dict(list(levels.items())[::-1])))
        self.assertGreater(many, 200)


class Errors(unittest.TestCase):
    def test_errors(self):
        for call in (lambda *told: level(*told, None), lambda *told: level_papers(*told, None), splits, shares,
                     lambda *told: chance(*told, None), lambda *told: is_splits(*told, None),
                     lambda *told: chance_given(*told, None, None, None)):
            with self.assertRaises(HasNot) as caught:
                call(NOT, EDGES, None)
            self.assertEqual(caught.exception.index, 1)
            for thing in NO_FACTS:
                with self.assertRaises(NoFact) as caught:
                    call(WAY, EDGES, thing)
                self.assertIs(caught.exception.thing, thing)

    def refused(self, error, call, thing, told):
        with self.assertRaises(error) as caught:
            call(WAY, EDGES, GOAL, thing)
        self.assertIs(caught.exception.thing, told) if told is thing else self.assertEqual(caught.exception.thing, told)

    def test_bad_levels_and_chances(self):
        both = [(BadLevels, call, LEVELS) for call in (level, level_papers)] + [
            (BadChances, call, HALVES) for call in (chance, lambda *told: chance_given(*told, None, None))]
        for error, call, right in both:
            for thing in odd_objects():
                if not isinstance(thing, dict):
                    self.refused(error, call, thing, thing)
                if not isinstance(thing, int) or isinstance(thing, bool):
                    self.refused(error, call, {**right, A_C: thing, B_C: None}, A_C)
            for key in ("x", None, 7, True, (), GOAL, ("edge", "a", "X"), ("edge", "a", True)):
                self.refused(error, call, {A_B: right[A_B], key: right[A_B], A_C: "x"}, key)
            self.refused(error, call, {}, A_B)
            self.refused(error, call, {B_C: right[B_C], A_B: right[A_B]}, A_C)
        for chances in ((2, 1), (-1, 2), (1, 0), (0, 0), (1, -2), (1,), (1, 2, 3), (True, 2), (1, True), ("1", 2), 1, 0):
            self.refused(BadChances, chance, {**HALVES, A_B: chances}, A_B)
        for number in ((1, 2), "1", None, True):
            self.refused(BadLevels, level, {**LEVELS, A_B: number}, A_B)

    def test_lists_of_facts(self):
        for thing in odd_objects():
            if not isinstance(thing, (list, tuple)):
                for lists in ((thing, thing), ([A_B], thing)):
                    with self.assertRaises(BadFact) as caught:
                        chance_given(WAY, EDGES, GOAL, HALVES, *lists)
                    self.assertEqual(caught.exception.index, 0)
            for lists in (([A_B, list(GOAL), thing, thing], 1), ([A_B], (GOAL, GOAL, thing, None))):
                with self.assertRaises(BadFact) as caught:
                    chance_given(WAY, EDGES, GOAL, HALVES, *lists)
                self.assertEqual(caught.exception.index, 2)
        self.assertRaises(BadChances, chance_given, WAY, EDGES, GOAL, {}, None, None)


class Chances(unittest.TestCase):
    def test_the_example(self):
        self.assertEqual(chance(WAY, EDGES, GOAL, HALVES), (5, 8))
        self.assertEqual(chance(rules=WAY, facts=EDGES, fact=list(GOAL), chances={A_B: [1, 1], A_C: (0, 7), B_C: (4, 6)}), (2, 3))
        self.assertEqual(chance(WAY, EDGES, ("zz",), HALVES), (0, 1))
        self.assertEqual(chance(FREE, Facts([]), ("p",), {}), (1, 1))
        self.assertEqual(chance(WAY, EDGES, A_B, {**HALVES, A_B: (4, 8)}), (1, 2))
        self.assertEqual(kinds_of(chance(WAY, EDGES, GOAL, HALVES)), kinds_of((5, 8)))

    def test_chance_given(self):
        self.assertEqual(chance_given(WAY, EDGES, GOAL, HALVES, [], []), (5, 8))
        self.assertEqual(chance_given(rules=WAY, facts=EDGES, fact=GOAL, chances=HALVES, follow=[list(A_B)], lack=(A_C,)), (1, 2))
        self.assertEqual(chance_given(WAY, EDGES, GOAL, HALVES, [GOAL, GOAL], []), (1, 1))
        self.assertEqual(chance_given(WAY, EDGES, GOAL, HALVES, [], [GOAL]), (0, 1))
        self.assertIsNone(chance_given(WAY, EDGES, GOAL, HALVES, [GOAL], [GOAL]))
        self.assertIsNone(chance_given(WAY, EDGES, GOAL, HALVES, [("zz",)], []))
        self.assertIsNone(chance_given(WAY, EDGES, GOAL, {**HALVES, A_C: (0, 1)}, [A_C], []))
        self.assertEqual(chance_given(WAY, EDGES, GOAL, HALVES, [("way", "a", "b")], [("way", "b", "c")]), (1, 2))

    def test_against_the_words(self):
        nones = 0
        for seed in range(300):
            rules, facts = drawn(seed)
            made, given = Rules(rules), Facts(facts)
            dice = Dice(seed)
            chances = {fact: dice.random.choice(((1, 2), (0, 3), (5, 5), (2, 6), (1, 3), (99, 100))) for fact in facts}
            follows = slow_follows(rules, facts)
            told = sorted(follows[tuple(facts)], key=brute.atom_rank)[-4:] + [("p", "zz")]
            for fact in told:
                whole = sum([weight(chances, facts, some) for some in follows if fact in follows[some]])
                self.assertEqual(chance(made, given, fact, chances), pair(Fraction(whole)))
                follow = [other for other in told if dice.random.random() < 0.25]
                lack = [other for other in told if dice.random.random() < 0.25]
                rows = [some for some in follows if set(follow) <= follows[some] and not set(lack) & follows[some]]
                below = sum([weight(chances, facts, some) for some in rows])
                above = sum([weight(chances, facts, some) for some in rows if fact in follows[some]])
                got = chance_given(made, given, fact, chances, follow, lack)
                self.assertEqual(got, None if below == 0 else pair(Fraction(above) / below))
                nones += got is None
        self.assertGreater(nones, 50)


class Splits(unittest.TestCase):
    def slow(self, follows, facts, fact, thing):
        yes, no = thing
        if not all([fact in follows[tuple(sorted(one, key=brute.atom_rank))] for one, other in yes]):
            return False
        if any([fact in follows[tuple([given for given in facts if given not in other])] for one, other in no]):
            return False
        return all([sum([set(one) <= set(some) and not set(other) & set(some) for one, other in yes + no]) == 1
                    for some in choices(facts)])

    def test_splits(self):
        told = splits(WAY, EDGES, GOAL)
        self.assertIs(is_splits(WAY, EDGES, GOAL, told), True)
        self.assertEqual(kinds_of(told)[0], "tuple")
        self.assertEqual([kinds_of(told)[1][0][0], kinds_of(told)[1][1][0]], ["list", "list"])
        self.assertTrue(all([type(one) is tuple and type(part) is tuple for rows in told for one in rows for part in one]))
        right = [[[[A_C], []], [[B_C, A_B], [A_C]]], [[[], [A_B, A_C]], [[list(A_B)], [B_C, A_C]]]]
        self.assertIs(is_splits(rules=WAY, facts=EDGES, fact=GOAL, thing=right), True)
        self.assertEqual(splits(FREE, Facts([]), ("p",)), ([((), ())], []))
        self.assertEqual(splits(rules=FREE, facts=Facts([]), fact=["q"]), ([], [((), ())]))

    def test_each_split_tells_what_it_should(self):
        rules, facts = rules_of("p if a", "p if b"), facts_of("a", "b")
        a, b = ("a",), ("b",)
        for thing in (([((), ())], []), ([], [((), ())]), ([((a,), ()), ((b,), ())], []), ([((a,), ()), ((), (a,))], []),
                      ([((a,), ())], [((), (a,))]), ([((a,), ()), ((b,), ())], [((), (a, b))])):
            self.assertIs(is_splits(rules, facts, ("p",), thing), False, thing)
        self.assertIs(is_splits(rules, facts, ("p",), ([((a,), ()), ((b,), (a,))], [((), (a, b))])), True)

    def test_wrong_splits(self):
        yes, no = [((A_C,), ()), ((A_B, B_C), (A_C,))], [((), (A_B, A_C)), ((A_B,), (A_C, B_C))]
        for thing in odd_objects() + [
                (yes,), (yes, no, []), (no, yes), (yes, no[:1]), (yes[:1], no), (yes + yes[:1], no), (yes, no + no[:1]),
                (yes, [((), (A_B, A_C)), ((A_B,), (A_C,))]), ([((A_C,), ()), ((A_B, B_C), ())], no), (yes, None),
                ([((A_C,), (), ()), yes[1]], no), ([((A_C, A_C), ()), yes[1]], no), ([(A_C, ()), yes[1]], no),
                ([((A_C,), (A_C,)), yes[1]], no), (yes + [((A_C, A_B), (A_B,))], no), ([(Facts([A_C]), ()), yes[1]], no),
                ([None, yes[1]], no), ([((A_C, GOAL), ()), yes[1]], no), {0: yes, 1: no}]:
            self.assertIs(is_splits(WAY, EDGES, GOAL, thing), False, thing)

    def test_against_the_words(self):
        right = 0
        for seed in range(300):
            rules, facts = drawn(seed)
            made, given = Rules(rules), Facts(facts)
            follows = slow_follows(rules, facts)
            dice = Dice(seed)
            for fact in sorted(follows[tuple(facts)], key=brute.atom_rank)[-3:] + [("p", "zz")]:
                told = splits(made, given, fact)
                self.assertTrue(self.slow(follows, facts, fact, told))
                self.assertTrue(is_splits(made, given, fact, told))
                self.assertEqual(told, splits(Rules(list(rules)), Facts(facts[::-1]), list(fact)))
                rows = [([], []), ([], [])]
                for one, other in told[0] + told[1]:
                    # Some splits are parted by one more fact, others are changed.
                    left = [given for given in facts if given not in one + other]
                    at = 0 if (one, other) in told[0] else 1
                    if left and dice.random.random() < 0.4:
                        rows[0][at].extend([(one + (left[0],), other), (one, other + (left[0],))])
                    else:
                        rows[0][at].append((one, other))
                    rows[1][at].append((one, other + tuple(left[:1])) if dice.random.random() < 0.3 else (one, other))
                for thing in rows:
                    is_right = self.slow(follows, facts, fact, thing)
                    self.assertEqual(is_splits(made, given, fact, thing), is_right)
                    right += is_right
        self.assertGreater(right, 300)


class Shares(unittest.TestCase):
    def test_the_example(self):
        told = shares(WAY, EDGES, GOAL)
        self.assertEqual(told, {A_B: (1, 6), A_C: (2, 3), B_C: (1, 6)})
        self.assertEqual(list(told), [A_B, A_C, B_C])
        self.assertEqual(shares(rules=WAY, facts=EDGES, fact=["zz"]), {A_B: (0, 1), A_C: (0, 1), B_C: (0, 1)})
        self.assertEqual(shares(FREE, facts_of("p", "e"), ("p",)), {("e",): (0, 1), ("p",): (0, 1)})
        self.assertEqual(shares(FREE, Facts([]), ("p",)), {})
        self.assertEqual(kinds_of(shares(FREE, facts_of("e"), ("q",))), kinds_of({("e",): (1, 1)}))

    def test_against_the_words(self):
        for seed in range(200):
            rules, facts = drawn(seed, 4)
            follows = slow_follows(rules, facts)
            for fact in sorted(follows[tuple(facts)], key=brute.atom_rank)[-3:]:
                counts = {one: 0 for one in facts}
                orders = list(permutations(facts))
                for order in orders:
                    sets = [tuple(sorted(order[:many], key=brute.atom_rank)) for many in range(len(facts) + 1)]
                    for many, one in enumerate(order):
                        counts[one] += fact in follows[sets[many + 1]] and fact not in follows[sets[many]]
                told = shares(Rules(rules), Facts(facts), fact)
                self.assertEqual(told, {one: pair(Fraction(many, len(orders))) for one, many in counts.items()})


class Limits(unittest.TestCase):
    def test_twelve_given_facts(self):
        rules = rules_of("p X Y if e X Y", "p X Z if p X Y, p Y Z", "two if q X, q Y, unlike X Y", "all if " + ", ".join(
            ["q 0", "q 1", "q 2"]))
        facts = Facts([("q", n) for n in range(6)] + [("e", n, n + 1) for n in range(5)] + [("e", 0, 5)])
        chances = {fact: (1, 999) for fact in facts.listed()}
        none = Fraction(998, 999)
        self.assertEqual(chance(rules, facts, ("p", 0, 5), chances), pair(1 - none * (1 - Fraction(1, 999) ** 5)))
        self.assertEqual(chance(rules, facts, ("two",), chances), pair(1 - none ** 6 - 6 * none ** 5 / 999))
        self.assertEqual(shares(rules, facts, ("two",))[("q", 3)], (1, 6))
        for fact in (("two",), ("p", 0, 5), ("all",)):
            self.assertTrue(is_splits(rules, facts, fact, splits(rules, facts, fact)))
        self.assertEqual(len(least_breaks(rules, facts, ("two",))), 6)


if __name__ == "__main__":
    unittest.main()
