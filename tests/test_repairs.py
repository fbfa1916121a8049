"""Points [114], [115], [116], [117]: denials, quarrels, repairs, and what is sure all the same."""

import unittest

from rulehouse.errors import BadDenial, HasNot, NoFact, NoRepair
from rulehouse.facts import Facts
from rulehouse.reasons import least_sets
from rulehouse.repairs import broken, in_repairs, left_out, quarrels, repair_papers, repairs
from rulehouse.rules import Rules
from rulehouse.trees import is_tree
from rulehouse.worlds import is_world
from tests import brute
from tests.brute import Dice
from tests.odd import facts_of, kinds_of, odd_objects, rules_of
from tests.test_following import NO_FACTS
from tests.test_reasons import choices, least

BOSSES = facts_of("boss a b", "boss a c", "boss d b")
A_B, A_C, D_B = BOSSES.listed()
TWO = [[("boss", "X", "Y"), ("boss", "X", "Z"), ("unlike", "Y", "Z")], [("boss", "X", "Z"), ("boss", "Y", "Z"), ("unlike", "X", "Y")]]
NONE = Rules([])
NOT = rules_of("p", "q if not r")
NO_DENIALS = [[("not", ("p",))], [("p", "X"), ("unlike", "X", "Y")], [("unlike", "X", "X")], [("p",), None], ("p", "X"), "p",
              [("p", True)], [[("p",)]], {("p",): 1}, [("p", "X"), ("not", ("q", "X"))]]


def breaks(rules, facts, denials):
    following = brute.follows(rules, facts)
    return any([brute.matches(following, body) for body in denials])


def slow_left_out(rules, facts, denials):
    return least([some for some in choices(facts) if not breaks(rules, set(facts) - set(some), denials)])


def drawn(seed):
    dice = Dice(seed)
    rules, facts = dice.winding() if seed % 3 else dice.program(1 + seed % 4)
    facts = sorted(set(facts), key=brute.atom_rank)[:5]
    kinds = {"p": 2 if seed % 3 else 1, "q": 1 if seed % 3 else 2, "e": 2, "f": 1}
    denials = [tuple(dice.body(3, kinds, "XYZ", ["a", "b", 3], ("unlike",))) for _ in range(seed % 4)]
    if seed % 5:
        denials = [body for body in denials if brute.plain(body)]
    return rules, facts, denials


class Denials(unittest.TestCase):
    def test_the_example(self):
        self.assertEqual(left_out(NONE, BOSSES, TWO), [(A_B,), (A_C, D_B)])
        self.assertEqual(repairs(rules=NONE, facts=BOSSES, denials=TWO), [Facts([A_C, D_B]), Facts([A_B])])
        self.assertEqual(quarrels(NONE, BOSSES, TWO), [(A_B, A_C), (A_B, D_B)])
        self.assertEqual(broken(NONE, BOSSES, TWO), [
            (0, {"X": "a", "Y": "b", "Z": "c"}), (0, {"X": "a", "Y": "c", "Z": "b"}),
            (1, {"X": "a", "Z": "b", "Y": "d"}), (1, {"X": "d", "Z": "b", "Y": "a"})])
        self.assertEqual(list(broken(rules=NONE, facts=BOSSES, denials=TWO)[2][1]), ["X", "Z", "Y"])
        self.assertEqual([in_repairs(NONE, BOSSES, TWO, fact) for fact in (A_B, A_C, ("zz",))], ["open", "open", "never"])
        self.assertEqual(repair_papers(NONE, BOSSES, TWO, A_B), (Facts([A_B]), Facts([A_C, D_B])))
        self.assertEqual(kinds_of(left_out(NONE, BOSSES, TWO)), kinds_of([(A_B,), (A_C, D_B)]))
        self.assertEqual(kinds_of(broken(NONE, BOSSES, TWO)[:1]), kinds_of([(0, {"X": "a", "Y": "b", "Z": "c"})]))

    def test_what_follows_counts(self):
        rules = rules_of("way X Y if edge X Y", "way X Z if edge X Y, way Y Z")
        facts = facts_of("edge 1 2", "edge 2 1", "edge 2 3")
        round_trip = [[["way", "X", "X"]]]
        self.assertEqual(quarrels(rules, facts, round_trip), [(("edge", 1, 2), ("edge", 2, 1))])
        self.assertEqual(left_out(rules=rules, facts=facts, denials=round_trip), [(("edge", 1, 2),), (("edge", 2, 1),)])
        self.assertEqual(in_repairs(rules, facts, round_trip, ("way", 2, 3)), "sure")
        told = repair_papers(rules=rules, facts=facts, denials=round_trip, fact=["way", 2, 3])
        self.assertEqual([is_tree(rules, repair, ("way", 2, 3), tree) for repair, tree in zip(repairs(rules, facts, round_trip), told)], [True] * 2)
        self.assertEqual(repair_papers(rules, facts, round_trip, ("way", 1, 1)), [
            facts_of("edge 2 1", "edge 2 3", "way 2 1", "way 2 3"), facts_of("edge 1 2", "edge 2 3", "way 1 2", "way 1 3", "way 2 3")])
        self.assertEqual(in_repairs(rules=rules, facts=facts, denials=round_trip, fact=["way", 1, 3]), "open")

    def test_nothing_is_broken(self):
        for denials in ([], [[("zz", "X")]], [[("boss", "X", "X")]], [[("boss", "X", "Y"), ("unlike", "X", "X")]]):
            self.assertEqual((broken(NONE, BOSSES, denials), quarrels(NONE, BOSSES, denials), left_out(NONE, BOSSES, denials),
                              repairs(NONE, BOSSES, denials)), ([], [], [()], [BOSSES]))
            self.assertEqual([in_repairs(NONE, BOSSES, denials, fact) for fact in (A_B, ("zz",))], ["sure", "never"])

    def test_no_repair(self):
        for rules, denials in ((NONE, [[]]), (rules_of("p"), [[("p",)]]), (NONE, [[("unlike", 1, 2)]]), (rules_of("p"), TWO + [[("p",), ("p",)]])):
            self.assertEqual((quarrels(rules, BOSSES, denials), left_out(rules, BOSSES, denials), repairs(rules, BOSSES, denials)),
                             ([()], [], []))
            for call in (in_repairs, repair_papers):
                self.assertRaises(NoRepair, call, rules, BOSSES, denials, A_B)
                self.assertRaises(NoFact, call, rules, BOSSES, denials, None)
        self.assertEqual(broken(NONE, BOSSES, [[], [("unlike", 2, 2)]]), [(0, {})])

    def test_errors(self):
        for call in (broken, quarrels, left_out, repairs, lambda *told: in_repairs(*told, None), lambda *told: repair_papers(*told, None)):
            with self.assertRaises(HasNot) as caught:
                call(NOT, BOSSES, None)
            self.assertEqual(caught.exception.index, 1)
            for thing in NO_DENIALS + [thing for thing in odd_objects() if thing not in ([], ())]:
                with self.assertRaises(BadDenial) as caught:
                    call(NONE, BOSSES, [TWO[0], [], thing])
                self.assertEqual(caught.exception.index, 2)
            for thing in (None, 3, "ab", {}, BOSSES, True):
                with self.assertRaises(BadDenial) as caught:
                    call(NONE, BOSSES, thing)
                self.assertEqual(caught.exception.index, 0)
        for call in (in_repairs, repair_papers):
            for thing in NO_FACTS + odd_objects()[:10]:
                with self.assertRaises(NoFact) as caught:
                    call(NONE, BOSSES, TWO, thing)
                self.assertIs(caught.exception.thing, thing)

    def test_denials_may_have_relations_of_other_places(self):
        self.assertEqual(broken(rules_of("p if boss X Y"), BOSSES, [[("boss", "X")], [("p", "X")], [("p",)]]), [(2, {})])

    def test_against_all_sets(self):
        words = {}
        for seed in range(600):
            rules, facts, denials = drawn(seed)
            told = (Rules(rules), Facts(facts), denials)
            following = brute.follows(rules, facts)
            slow = [(index, calls) for index, body in enumerate(denials) for calls in brute.matches(following, body)]
            self.assertEqual(sorted(broken(*told), key=str), sorted(slow, key=str), seed)
            keys = [(index, [brute.term_rank(thing) for thing in calls.values()]) for index, calls in broken(*told)]
            self.assertEqual(keys, sorted(keys))
            out = slow_left_out(rules, facts, denials)
            self.assertEqual(left_out(*told), out, seed)
            self.assertEqual(quarrels(*told), least([some for some in choices(facts) if breaks(rules, some, denials)]))
            left = [[fact for fact in facts if fact not in some] for some in out]
            self.assertEqual(repairs(*told), [Facts(some) for some in left])
            for fact in sorted(following, key=brute.atom_rank)[-3:] + [("zz",)]:
                if not out:
                    self.assertRaises(NoRepair, in_repairs, *told, fact)
                    continue
                word = in_repairs(*told, fact)
                has = [fact in brute.follows(rules, some) for some in left]
                self.assertEqual(word, "sure" if all(has) else "open" if any(has) else "never")
                words[word] = words.get(word, 0) + 1
                self.check_papers(told, left, fact, word)
                sets = least_sets(told[0], told[1], fact)
                self.assertEqual(word == "sure", not any([all([set(some) & set(one) for one in sets]) for some in out]))
                self.assertEqual(word == "never", all([any([set(bad) <= set(one) for bad in quarrels(*told)]) for one in sets]))
        self.assertGreater(min(words.values()), 15)
        self.assertEqual(len(words), 3)

    def check_papers(self, told, left, fact, word):
        papers = repair_papers(*told, fact)
        self.assertEqual(papers, repair_papers(Rules(told[0].listed()), *told[1:], list(fact)))
        if word == "open":
            self.assertIsInstance(papers, tuple)
            self.assertEqual([fact in brute.follows(told[0].listed(), one.listed()) for one in papers], [True, False])
            self.assertTrue(all([one.listed() in left for one in papers]))
            return
        self.assertIsInstance(papers, list)
        self.assertEqual(len(papers), len(left))
        for paper, some in zip(papers, left):
            if word == "sure":
                self.assertTrue(is_tree(told[0], Facts(some), fact, paper))
            else:
                self.assertTrue(is_world(told[0], Facts(some), paper) and fact not in paper)

    def test_at_the_limits(self):
        rules = rules_of("way X Y if edge X Y", "way X Z if way X Y, way Y Z", "both X Y if way X Y, way Y X")
        row = "abcdefgh"
        facts = Facts([("edge", row[at], row[(at + 1) % 8]) for at in range(8)] + [
            ("edge", "a", "e"), ("edge", "e", "a"), ("edge", "c", "g"), ("edge", "g", "c")])
        denials = [[("way", "X", "X")], [("way", "X", "Y"), ("way", "Y", "Z"), ("edge", "X", "Z"), ("unlike", "X", "Y")],
                   [("both", "X", "Y"), ("edge", "X", "Z"), ("unlike", "X", "Z"), ("unlike", "Y", "Z")], [("edge", "X", "X")],
                   [("way", "a", "X"), ("way", "X", "h")]]
        for some in left_out(rules, facts, denials):
            self.assertEqual(broken(rules, facts - Facts(some), denials), [])
        self.assertEqual(in_repairs(rules, facts, denials, ("way", "a", "a")), "never")


if __name__ == "__main__":
    unittest.main()
