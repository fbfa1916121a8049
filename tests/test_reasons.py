"""Points [68] to [71], [80]: least sets, least breaks, roles and blame."""

import unittest
from itertools import combinations

from rulehouse.errors import HasNot, NoFact, NotGiven
from rulehouse.facts import Facts
from rulehouse.reasons import blame, is_least_break, is_least_set, least_breaks, least_sets, role
from rulehouse.rules import Rules
from tests import brute
from tests.brute import Dice
from tests.odd import facts_of, kinds_of, odd_objects, rules_of
from tests.test_following import NO_FACTS

WAY = rules_of("way X Y if edge X Y", "way X Z if edge X Y, way Y Z")
A_B, A_C, B_C = ("edge", "a", "b"), ("edge", "a", "c"), ("edge", "b", "c")
EDGES = Facts([A_B, A_C, B_C])
GOAL = ("way", "a", "c")
NOT = rules_of("p", "q if not r")


def choices(facts):
    """All sets of some facts, in THE ORDER OF CHOICES."""
    facts = sorted(set(facts), key=brute.atom_rank)
    return [some for many in range(len(facts) + 1) for some in combinations(facts, many)]


def slow_follows(rules, facts):
    """The dict from all sets of given facts to what follows from them."""
    return {some: brute.follows(rules, some) for some in choices(facts)}


def least(sets):
    return [one for one in sets if not any([set(other) < set(one) for other in sets])]


def slow_breaks(follows, facts, fact):
    return [some for some in follows if fact not in follows[tuple([one for one in facts if one not in some])]]


def drawn(seed, most=5):
    dice = Dice(seed)
    rules, facts = dice.winding() if seed % 3 else dice.program(1 + seed % 5)
    return rules, sorted(set(facts), key=brute.atom_rank)[:most]


class Reasons(unittest.TestCase):
    def test_the_example(self):
        self.assertEqual(least_sets(WAY, EDGES, GOAL), [(A_C,), (A_B, B_C)])
        self.assertEqual(least_breaks(rules=WAY, facts=EDGES, fact=list(GOAL)), [(A_B, A_C), (A_C, B_C)])
        self.assertEqual(blame(WAY, EDGES, GOAL, A_B), (1, (A_C,)))
        self.assertEqual(role(WAY, EDGES, GOAL, A_B), "helps")
        self.assertEqual(least_sets(rules=WAY, facts=EDGES, fact=A_C), [(A_C,)])
        self.assertEqual(kinds_of(least_sets(WAY, EDGES, GOAL)), kinds_of([(A_C,), (A_B, B_C)]))
        self.assertEqual(kinds_of(blame(WAY, EDGES, GOAL, A_B)), kinds_of((1, (A_C,))))

    def test_nothing_and_from_nothing(self):
        self.assertEqual((least_sets(WAY, EDGES, ("zz",)), least_breaks(WAY, EDGES, ("zz",))), ([], [()]))
        rules = rules_of("p", "q if p, e")
        self.assertEqual((least_sets(rules, Facts([]), ("p",)), least_breaks(rules, Facts([]), ("p",))), ([()], []))
        self.assertEqual((least_sets(rules, facts_of("p", "e"), ("p",)), least_breaks(rules, facts_of("p"), ("p",))), ([()], []))
        self.assertEqual([role(rules, facts_of("p", "e"), fact, ("p",)) for fact in (("p",), ("q",), ("zz",))], ["idle"] * 3)
        self.assertIsNone(blame(rules, facts_of("p", "e"), ("q",), ("p",)))
        self.assertEqual(role(rules, facts_of("p", "e"), ("q",), ["e"]), "needed")
        self.assertEqual(blame(rules, facts_of("p", "e"), ("q",), ["e"]), (0, ()))
        self.assertIs(is_least_set(rules, facts_of("p"), ("p",), []), True)
        self.assertIs(is_least_break(rules, facts_of("p"), ("zz",), ()), True)
        self.assertIsNone(blame(WAY, EDGES, ("zz",), A_B))
        # A given fact that does not follow otherwise is its own reason.
        self.assertEqual(least_sets(rules_of("p if q"), facts_of("p", "q"), ("p",)), [(("p",),), (("q",),)])

    def test_tests(self):
        for thing in ([A_C], (A_C,), [list(A_C)], [B_C, A_B], (A_B, B_C), (list(B_C), A_B)):
            self.assertIs(is_least_set(rules=WAY, facts=EDGES, fact=GOAL, thing=thing), True, thing)
        for thing in ([A_C, A_B], (list(A_C), B_C)):
            self.assertIs(is_least_break(rules=WAY, facts=EDGES, fact=GOAL, thing=thing), True, thing)
        for thing in odd_objects() + [[A_C, A_C], [A_B, B_C, A_B], A_C, Facts([A_C]), [("way", "a", "c")], {A_C: 1}, "edge",
                                      [A_B, B_C, A_C], [A_C, ("edge", "a", "z")], [A_C, None], [("edge", "a", True)]]:
            self.assertIs(is_least_set(WAY, EDGES, GOAL, thing), False, thing)
            self.assertIs(is_least_break(WAY, EDGES, GOAL, thing), False, thing)

    def test_errors(self):
        for call in (least_sets, least_breaks, lambda *told: is_least_set(*told, None), lambda *told: role(*told, None),
                     lambda *told: is_least_break(*told, None), lambda *told: blame(*told, None)):
            with self.assertRaises(HasNot) as caught:
                call(NOT, EDGES, None)
            self.assertEqual(caught.exception.index, 1)
            for thing in NO_FACTS:
                with self.assertRaises(NoFact) as caught:
                    call(WAY, EDGES, thing)
                self.assertIs(caught.exception.thing, thing)
        for call in (role, blame):
            for thing in odd_objects() + [GOAL, ("edge", "a", "z"), "edge", ("edge", "a", True)]:
                with self.assertRaises(NotGiven) as caught:
                    call(WAY, EDGES, GOAL, thing)
                self.assertIs(caught.exception.thing, thing)

    def test_against_the_words(self):
        kinds = {"needed": 0, "helps": 0, "idle": 0}
        for seed in range(300):
            rules, facts = drawn(seed)
            made, given = Rules(rules), Facts(facts)
            follows = slow_follows(rules, facts)
            for fact in sorted(follows[tuple(facts)], key=brute.atom_rank)[-3:] + [("p", "zz")]:
                sets = least([some for some in follows if fact in follows[some]])
                breaks = least(slow_breaks(follows, facts, fact))
                self.assertEqual(least_sets(made, given, fact), sets)
                self.assertEqual(least_breaks(made, given, fact), breaks)
                for some in choices(facts)[::3]:
                    self.assertEqual(is_least_set(made, given, fact, some[::-1]), some in sets)
                    self.assertEqual(is_least_break(made, given, fact, list(some)), some in breaks)
                for one in facts:
                    told = [one in some for some in sets]
                    word = "idle" if not any(told) else "needed" if all(told) else "helps"
                    kinds[word] += 1
                    self.assertEqual(role(made, given, fact, one), word)
                    self.assertEqual(blame(made, given, fact, one), self.slow_blame(follows, facts, fact, one))
        self.assertTrue(min(kinds.values()) > 30, kinds)

    def slow_blame(self, follows, facts, fact, one):
        """As few given facts as can be without which it is needed, and the first such set."""
        for some in choices(facts):
            sets = least([told for told in follows if fact in follows[told] and not set(told) & set(some)])
            if one not in some and sets and all([one in told for told in sets]):
                return (len(some), some)
        return None


class Limits(unittest.TestCase):
    def test_twelve_given_facts(self):
        facts = Facts([("e", one, other) for one, other in ((0, 1), (0, 2), (1, 2), (1, 3), (2, 3), (2, 4), (3, 4), (3, 5), (4, 5),
                                                            (1, 4), (5, 0), (0, 3))])
        rules = rules_of("p X Y if e X Y", "p X Z if p X Y, p Y Z", "q if p X Y, p Y Z, p Z X")
        told = least_sets(rules, facts, ("p", 0, 5))
        self.assertEqual(len(told), len({tuple(some) for some in told}))
        self.assertTrue(all([is_least_set(rules, facts, ("p", 0, 5), some) for some in told[:3]]))
        # The ways from 0 to 5 that meet no place twice.
        edges = [fact[1:] for fact in facts.listed()]

        def ways(at, seen):
            return 1 if at == 5 else sum([ways(other, seen + [other]) for one, other in edges if one == at and other not in seen])

        self.assertEqual(len(told), ways(0, [0]))
        self.assertEqual(least_breaks(rules, facts, ("p", 0, 5))[0], (("e", 3, 5), ("e", 4, 5)))
        self.assertEqual(blame(rules, facts, ("q",), ("e", 5, 0)), (0, ()))


if __name__ == "__main__":
    unittest.main()
