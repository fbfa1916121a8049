"""Points [111], [112], [113], [117]: wishes, the changes that grant them, and why none does."""

import unittest

from rulehouse.errors import BadFact, HasNot
from rulehouse.facts import Facts
from rulehouse.rules import Rules
from rulehouse.trees import is_tree
from rulehouse.wishes import bars, grants, is_bars, joint_sets, lean_changes, least_changes
from tests import brute
from tests.brute import Dice
from tests.odd import facts_of, kinds_of, odd_objects, rules_of
from tests.test_following import NO_FACTS
from tests.test_reasons import choices, least

WAY = rules_of("way X Y if edge X Y", "way X Z if edge X Y, way Y Z")
EDGES = facts_of("edge 1 2", "edge 1 3", "edge 2 3")
ONE_TWO, ONE_THREE, TWO_THREE = EDGES.listed()
NOT = rules_of("p", "q if not r")


def is_granted(rules, standing, wanted, barred):
    following = brute.follows(rules, standing)
    return set(wanted) <= following and not set(barred) & following


def slow_changes(rules, facts, wanted, barred, menu):
    """All changes that grant, in order."""
    new = [fact for fact in menu if fact not in facts]
    found = [(taken, put) for taken in choices(facts) for put in choices(new)
             if is_granted(rules, (set(facts) - set(taken)) | set(put), wanted, barred)]
    return sorted(found, key=lambda change: (len(change[0] + change[1]), [
        (len(some), [brute.atom_rank(fact) for fact in some]) for some in change]))


def slow_joint(rules, facts, wanted):
    return least([some for some in choices(facts) if set(wanted) <= brute.follows(rules, some)])


def drawn(seed):
    """Rules, facts, wanted, barred and menu."""
    dice = Dice(seed)
    if seed % 2:
        # Relations without places: wishes that several changes grant.
        rules, names = [], "abcdef"
        for _ in range(dice.random.randint(6, 10)):
            body = tuple([(name,) for name in dice.random.sample(names, dice.random.randint(1, 3))])
            rules.append(((dice.random.choice("pqr"),), body))
        facts = [(name,) for name in dice.random.sample(names, 4)]
        menu = [(name,) for name in dice.random.sample(names, 4)]
        wanted, barred = [[(name,) for name in dice.random.sample("pqr", dice.random.randint(0, 2))] for _ in range(2)]
        return rules, sorted(facts), wanted, [fact for fact in barred if fact not in wanted], menu
    rules, facts = dice.winding() if seed % 3 else dice.program(1 + seed % 4)
    facts = sorted(set(facts), key=brute.atom_rank)[:4]
    menu = dice.facts(dice.random.randint(0, 3), {"e": 2, "f": 1}, ["a", "b", 3])
    following = sorted(brute.follows(rules, facts + menu), key=str) + [("zz",)]
    # What follows by rules, where there is some, is more worth to be asked.
    made = [fact for fact in following if fact not in facts + menu and fact != ("zz",)] if seed % 4 else []
    wanted = dice.random.sample(made or following, min(len(made or following), dice.random.choice((0, 1, 1, 2))))
    barred = dice.random.sample(made or following, min(len(made or following), dice.random.choice((0, 1, 1, 2))))
    return rules, facts, wanted, barred, menu


class Changes(unittest.TestCase):
    def test_least_and_lean(self):
        told = ([], [("way", 1, 3)], [])
        self.assertEqual(least_changes(WAY, EDGES, *told), [((ONE_TWO, ONE_THREE), ()), ((ONE_THREE, TWO_THREE), ())])
        menu = [("edge", 3, 1), ("edge", 2, 1), ("edge", 3, 2), ("edge", 1, 2)]
        told = ([("way", 3, 1)], [], menu)
        self.assertEqual(least_changes(WAY, EDGES, *told), [((), (("edge", 3, 1),))])
        self.assertEqual(lean_changes(rules=WAY, facts=EDGES, wanted=told[0], barred=told[1], menu=told[2]), [
            ((), (("edge", 3, 1),)), ((), (("edge", 2, 1), ("edge", 3, 2)))])
        both = ([("way", 3, 2)], [["way", 1, 2]], [["edge", 3, 2]])
        self.assertEqual(least_changes(rules=WAY, facts=EDGES, wanted=both[0], barred=both[1], menu=both[2]), [
            ((ONE_TWO, ONE_THREE), (("edge", 3, 2),))])
        self.assertEqual(kinds_of(lean_changes(WAY, EDGES, *both)), kinds_of([((ONE_TWO, ONE_THREE), (("edge", 3, 2),))]))

    def test_nothing_to_change(self):
        self.assertEqual(least_changes(WAY, EDGES, [], [], []), [((), ())])
        self.assertEqual(lean_changes(WAY, EDGES, [("way", 1, 2)], [("way", 3, 1)], [("edge", 3, 1)]), [((), ())])
        self.assertEqual(least_changes(WAY, EDGES, [("way", 3, 1)], [], [("edge", 1, 2)]), [])
        self.assertEqual(lean_changes(WAY, EDGES, [("way", 1, 2)], [("way", 1, 2)], [("zz",)]), [])
        self.assertEqual(lean_changes(rules_of("p"), Facts([]), [], [("p",)], []), [])
        self.assertEqual(least_changes(Rules([]), Facts([]), [("p",)], [], [("p",), ["p"]]), [((), (("p",),))])

    def test_leaner_ones_need_not_be_of_the_least_facts(self):
        rules = rules_of("p if a, b", "p if c, d, e")
        self.assertEqual(lean_changes(rules, facts_of("zz"), [("p",)], [], [(name,) for name in "abcde"]), [
            ((), (("a",), ("b",))), ((), (("c",), ("d",), ("e",)))])
        # A change that has all of one that grants need not grant itself, and one between may not.
        rules = rules_of("p if a", "bad if a, b", "p if b, c")
        self.assertEqual(lean_changes(rules, Facts([]), [("p",)], [("bad",)], [("a",), ("b",), ("c",)]), [
            ((), (("a",),)), ((), (("b",), ("c",)))])
        rules = rules_of("bad if a", "q if a", "q if c, d, b")
        self.assertEqual(lean_changes(rules, facts_of("a", "d"), [("q",)], [("bad",)], [("b",), ("c",)]), [
            ((("a",),), (("b",), ("c",)))])

    def test_the_order_of_changes(self):
        rules = rules_of("bad if a, b", "bad if a, c", "w if x", "w if y, z")
        a, b, c, x, y, z = [(name,) for name in "abcxyz"]
        told = (rules, Facts([a, b, c]), [("w",)], [("bad",)], [x, y, z])
        self.assertEqual(lean_changes(*told), [((a,), (x,)), ((a,), (y, z)), ((b, c), (x,)), ((b, c), (y, z))])
        rules = rules_of("bad if a, b", "w if x", "w if y")
        self.assertEqual(least_changes(rules, Facts([a, b, c]), [("w",)], [("bad",)], [y, x]), [
            ((a,), (x,)), ((a,), (y,)), ((b,), (x,)), ((b,), (y,))])

    def test_grants(self):
        told = (WAY, EDGES, [("way", 3, 2)], [("way", 1, 2)], [("edge", 3, 2), ("edge", 2, 2), ONE_TWO])
        for thing in (((ONE_TWO, ONE_THREE), (("edge", 3, 2),)), [[list(ONE_THREE), ONE_TWO], [["edge", 3, 2]]],
                      ((ONE_TWO, ONE_THREE), [("edge", 3, 2), ("edge", 2, 2)]), ([ONE_TWO, TWO_THREE, ONE_THREE], [("edge", 3, 2)])):
            self.assertIs(grants(*told, thing), True, thing)
        self.assertIs(grants(rules=WAY, facts=EDGES, wanted=[], barred=[], menu=[], thing=[[], ()]), True)
        for thing in odd_objects() + [
                ((ONE_TWO,), (("edge", 3, 2),)), ((ONE_TWO, ONE_THREE), ()), ((ONE_TWO, ONE_THREE, ONE_TWO), (("edge", 3, 2),)),
                ((ONE_TWO, ONE_THREE), (("edge", 3, 2), ("edge", 3, 2))), ((ONE_TWO, ONE_THREE), (("edge", 3, 2), ONE_TWO)),
                ((ONE_TWO, ONE_THREE), (("edge", 3, 2), ("edge", 4, 4))), ((ONE_TWO, ONE_THREE, ("edge", 9, 9)), (("edge", 3, 2),)),
                (Facts([ONE_TWO, ONE_THREE]), (("edge", 3, 2),)), ((ONE_TWO, ONE_THREE), Facts([("edge", 3, 2)])),
                ((ONE_TWO, ONE_THREE), (("edge", 3, 2),), ()), ((ONE_TWO, ONE_THREE),), {0: (ONE_TWO, ONE_THREE), 1: ()},
                ((ONE_TWO, ONE_THREE, None), (("edge", 3, 2),)), ((ONE_TWO, ONE_THREE), (("edge", 3, True),))]:
            self.assertIs(grants(*told, thing), False, thing)

    def test_errors(self):
        calls = [least_changes, lean_changes, bars, lambda *told: grants(*told, None), lambda *told: is_bars(*told, None),
                 lambda *told: joint_sets(*told[:3])]
        for call in calls:
            with self.assertRaises(HasNot) as caught:
                call(NOT, EDGES, None, None, None)
            self.assertEqual(caught.exception.index, 1)
            for thing in NO_FACTS + odd_objects():
                with self.assertRaises(BadFact) as caught:
                    call(WAY, EDGES, [ONE_TWO, thing], [thing], [thing])
                self.assertEqual(caught.exception.index, 1)
        for call in calls[:-1]:
            for thing in NO_FACTS + odd_objects():
                for told in (([ONE_TWO], [ONE_TWO, ONE_TWO, thing], [thing]), ([ONE_TWO], [ONE_TWO], [ONE_TWO, ONE_TWO, thing])):
                    with self.assertRaises(BadFact) as caught:
                        call(WAY, EDGES, *told)
                    self.assertEqual(caught.exception.index, 2)
            for place in range(3):
                for thing in (None, 3, "ab", {}, EDGES, True):
                    told = [[("zz",)], [], []]
                    told[place] = thing
                    with self.assertRaises(BadFact) as caught:
                        call(WAY, EDGES, *told)
                    self.assertEqual(caught.exception.index, 0)

    def test_against_all_changes(self):
        many = 0
        for seed in range(500):
            rules, facts, wanted, barred, menu = drawn(seed)
            told = (Rules(rules), Facts(facts), wanted, barred, menu)
            slow = slow_changes(rules, facts, wanted, barred, menu)
            self.assertEqual(least_changes(*told), [one for one in slow if len(one[0] + one[1]) == len(slow[0][0] + slow[0][1])], seed)
            lean = [one for one in slow if not any([set(other[0]) <= set(one[0]) and set(other[1]) <= set(one[1]) and other != one
                                                    for other in slow])]
            self.assertEqual(lean_changes(*told), lean, seed)
            many += len(lean) > 1
            for one in slow[:3]:
                self.assertTrue(grants(*told, one))
            if not barred:
                self.assertFalse(any([taken for taken, put in lean]))
            if not wanted:
                self.assertFalse(any([put for taken, put in lean]))
            dice = Dice(seed)
            new = [fact for fact in dict.fromkeys(menu) if fact not in facts]
            for _ in range(3):
                one = tuple([tuple(dice.random.sample(some, dice.random.randint(0, len(some)))) for some in (facts, new)])
                self.assertIs(grants(*told, one), is_granted(rules, (set(facts) - set(one[0])) | set(one[1]), wanted, barred))
        self.assertGreater(many, 20)

    def test_at_the_limits(self):
        rules = rules_of("way X Y if edge X Y", "way X Z if way X Y, way Y Z", "both X if way X Y, way Y X", "all if both a, both h",
                         "far X if way X h", "near if far a, far b", "low X Y if way Y X", "on X Y if low X Z, low Z Y")
        row = "abcdefgh"
        facts = Facts([("edge", row[at], row[at + 1]) for at in range(7)] + [("edge", "a", "c"), ("edge", "c", "e"), ("edge", "e", "g"),
                                                                           ("edge", "b", "d"), ("edge", "d", "f")])
        told = (rules, facts, [("far", "b"), ("way", "a", "d"), ("on", "h", "a"), ("far", "d")], [("near",), ("way", "h", "a")],
                [("edge", "h", "a"), ("edge", "d", "h")])
        self.assertEqual(least_changes(*told), [])
        self.assertTrue(is_bars(*told, bars(*told)))
        told = (rules, facts, [("near",), ("way", "a", "d")], [("way", "b", "c"), ("way", "c", "e"), ("way", "e", "g"), ("all",)],
                [("edge", "h", "a"), ("edge", "d", "h")])
        for one in least_changes(*told) + lean_changes(*told):
            self.assertTrue(grants(*told, one))
        self.assertIsNone(bars(*told))


class Bars(unittest.TestCase):
    def test_joint_sets(self):
        self.assertEqual(joint_sets(WAY, EDGES, [("way", 1, 3)]), [(ONE_THREE,), (ONE_TWO, TWO_THREE)])
        self.assertEqual(joint_sets(WAY, EDGES, [("way", 1, 3), ["way", 2, 3]]), [(ONE_TWO, TWO_THREE), (ONE_THREE, TWO_THREE)])
        self.assertEqual((joint_sets(rules=WAY, facts=EDGES, wanted=()), joint_sets(WAY, EDGES, [("zz",)])), ([()], []))
        self.assertEqual(joint_sets(rules_of("p"), EDGES, [("p",)]), [()])
        self.assertEqual(kinds_of(joint_sets(WAY, EDGES, [ONE_TWO])), kinds_of([(ONE_TWO,)]))

    def test_bars(self):
        told = (WAY, EDGES, [("way", 1, 3)], [ONE_THREE, ("way", 1, 2)], [])
        found = bars(*told)
        self.assertEqual([some for some, tree in found], [(ONE_THREE,), (ONE_TWO, TWO_THREE)])
        self.assertEqual(found, [((ONE_THREE,), (ONE_THREE, None, ())),
                                 ((ONE_TWO, TWO_THREE), (("way", 1, 2), 0, ((ONE_TWO, None, ()),)))])
        self.assertEqual(kinds_of(found), kinds_of([((ONE_THREE,), (ONE_THREE, None, ())),
                                                    ((ONE_TWO, TWO_THREE), (("way", 1, 2), 0, ((ONE_TWO, None, ()),)))]))
        self.assertIsNone(bars(rules=WAY, facts=EDGES, wanted=[], barred=[("way", 1, 3)], menu=[]))
        self.assertEqual(bars(WAY, EDGES, [("zz",)], [("way", 1, 3)], []), [])
        self.assertEqual(bars(rules_of("p"), EDGES, [], [("p",)], []), [((), (("p",), 0, ()))])
        # The menu counts, too.
        self.assertIsNone(bars(*told[:4], [("edge", 4, 3), ("edge", 1, 4)]))
        self.assertEqual(bars(WAY, EDGES, [("way", 3, 1)], [("way", 3, 3)], [("edge", 3, 1), ONE_TWO]), bars(
            WAY, EDGES, [("way", 3, 1)], [("way", 3, 3)], [("edge", 3, 1)]))
        self.assertIsNone(bars(WAY, EDGES, [("way", 3, 1)], [("way", 3, 3)], [("edge", 3, 1), ONE_TWO]))

    def test_is_bars(self):
        told = (WAY, EDGES, [("way", 1, 3)], [ONE_THREE, ("way", 1, 2)], [])
        first, second = bars(*told)
        three = (("way", 1, 3), 0, ((ONE_THREE, None, ()),))
        for thing in ([first, second], (second, first), [list(first), [[list(TWO_THREE), ONE_TWO], second[1]]],
                      [first, (second[0], [list(second[1][0]), 0, [[ONE_TWO, None, []]]])]):
            self.assertIs(is_bars(*told, thing), True, thing)
        self.assertIs(is_bars(rules=WAY, facts=EDGES, wanted=[("zz",)], barred=[("way", 1, 3)], menu=[], thing=()), True)
        self.assertIs(is_bars(WAY, EDGES, [], [("way", 1, 3)], [], []), False)
        self.assertIs(is_bars(WAY, EDGES, [("way", 1, 3)], [], [], []), False)
        for thing in odd_objects() + [
                [first], [second], [first, second, first], [first, first], [first, second, (EDGES.listed(), second[1])],
                [((ONE_THREE, ONE_THREE), first[1]), second], [(Facts([ONE_THREE]), first[1]), second], {0: first, 1: second},
                [first, (second[0], first[1])], [(first[0], second[1]), second], [(first[0], three), second], [first, second[:1]],
                [first, second + (1,)], [first, None], [first, (None, second[1])], [first, (second[0], None)], [first, (second[0], (1, 2, 3))],
                [first, (second[0], (("way", 1, 2), 1, ((ONE_TWO, None, ()),)))]]:
            self.assertIs(is_bars(*told, thing), False, thing)

    def test_against_all_sets(self):
        many = 0
        for seed in range(700):
            rules, facts, wanted, barred, menu = drawn(seed)
            told = (Rules(rules), Facts(facts), wanted, barred, menu)
            self.assertEqual(joint_sets(told[0], told[1], wanted), slow_joint(rules, facts, wanted))
            found = bars(*told)
            every = sorted(set(facts) | set(menu), key=brute.atom_rank)
            self.assertEqual(found is None, bool(slow_changes(rules, facts, wanted, barred, menu)))
            self.assertEqual(found is None, bool(lean_changes(*told)))
            if found is None:
                self.assertIs(is_bars(*told, [(some, (some[0], None, ()) if some else None) for some in slow_joint(rules, every, wanted)]), False)
                continue
            self.assertEqual([some for some, tree in found], slow_joint(rules, every, wanted))
            for some, tree in found:
                self.assertIn(tree[0], barred)
                self.assertTrue(is_tree(told[0], Facts(some), tree[0], tree))
            self.assertIs(is_bars(*told, found), True)
            if found:
                many += 1
                self.assertIs(is_bars(*told, found[1:]), False)
        self.assertGreater(many, 60)


if __name__ == "__main__":
    unittest.main()
