"""Points [49], [50], [51]: steady worlds, and papers that there is none with some facts."""

import unittest

from rulehouse.cases import wide_facts
from rulehouse.facts import Facts
from rulehouse.levels import by_levels, levels
from rulehouse.rules import Rules
from rulehouse.steady import is_no_world_with, is_steady, no_world_with, steady_worlds, world_with
from rulehouse.threes import open_facts, sure_facts
from tests import brute
from tests.brute import Dice
from tests.odd import facts_of, kinds_of, odd_objects, rules_of

WIN = rules_of("win X if move X Y, not win Y")
MOVES = facts_of("move a b", "move b a", "move b c", "move c d")
NONE = Facts([])
NO_P = rules_of("p if not p")
CLASH = ("clash",)


def slow_worlds(cases, facts):
    wide = set(facts) | {case[2] for case in cases}
    found = [world for world in brute.subsets(sorted(wide, key=brute.atom_rank)) if
             brute.behind(cases, facts, world) == world]
    order = sorted(wide, key=brute.atom_rank)
    return sorted(found, key=lambda world: [fact not in world for fact in order])


def is_clash(cases, facts, have, lack):
    low, high = set(have), (set(facts) | {case[2] for case in cases}) - set(lack)
    while True:
        lower = low | brute.behind(cases, facts, high)
        upper = high & brute.behind(cases, facts, lower)
        if (lower, upper) == (low, high):
            return not low <= high
        low, high = lower, upper


def is_paper(cases, facts, have, lack, paper):
    if paper[0] == "clash":
        return is_clash(cases, facts, have, lack)
    return is_paper(cases, facts, have | {paper[1]}, lack, paper[2]) and (
        is_paper(cases, facts, have, lack | {paper[1]}, paper[3]))


def some_paper(dice, wide, deep):
    if deep == 0 or dice.random.random() < 0.3:
        return CLASH
    return ("split", dice.random.choice(wide), some_paper(dice, wide, deep - 1), some_paper(dice, wide, deep - 1))


class Steady(unittest.TestCase):
    def test_the_example(self):
        sure = sure_facts(WIN, MOVES)
        self.assertEqual(steady_worlds(WIN, MOVES), [sure | facts_of("win a"), sure | facts_of("win b")])
        self.assertIs(is_steady(WIN, MOVES, sure | facts_of("win b")), True)
        self.assertIs(is_steady(rules=WIN, facts=MOVES, thing=sure), False)
        self.assertEqual(steady_worlds(rules=NO_P, facts=NONE), [])
        self.assertEqual(steady_worlds(Rules([]), MOVES), [MOVES])
        self.assertEqual(kinds_of(steady_worlds(WIN, MOVES)), ("list", ["Facts"] * 2))
        for thing in odd_objects() + [(sure | facts_of("win a")).listed()]:
            self.assertIs(is_steady(WIN, MOVES, thing), False)
        self.assertIs(is_steady(Rules([]), NONE, Facts([])), True)
        self.assertIs(is_steady(Rules([]), NONE, []), False)

    def test_against_the_words(self):
        for seed in range(400):
            rules, facts = Dice(seed).any_nots(seed)
            cases = brute.ground_cases(rules, facts)
            if len({case[2] for case in cases}) > 9:
                continue
            slow = slow_worlds(cases, facts)
            made, given = Rules(rules), Facts(facts)
            told = steady_worlds(made, given)
            self.assertEqual(told, [Facts(list(world)) for world in slow])
            sure = sure_facts(made, given)
            self.assertTrue(all([sure.is_within(world) for world in told]))
            if levels(made) is not None:
                self.assertEqual(told, [by_levels(made, given)])
            for world in brute.subsets(sorted(brute.follows(rules, facts, ("not",)), key=brute.atom_rank)[:5]):
                self.assertEqual(is_steady(made, given, Facts(list(world))), world in slow)

    def test_taken_apart(self):
        lower = [(("p",), (("not", ("q",)),)), (("q",), (("not", ("p",)),))]
        upper = [(("r",), (("p",), ("not", ("s",)))), (("s",), (("not", ("r",)), ("p",))), (("t",), (("q",), ("not", ("t",))))]
        found = [world for below in steady_worlds(Rules(lower), NONE) for world in steady_worlds(Rules(upper), below)]
        self.assertEqual(found, steady_worlds(Rules(upper + lower), NONE))


class Papers(unittest.TestCase):
    def test_the_example(self):
        paper = ("split", ("p",), CLASH, CLASH)
        self.assertEqual(no_world_with(NO_P, NONE, NONE, NONE), paper)
        self.assertIs(is_no_world_with(NO_P, NONE, NONE, NONE, ["split", ["p"], ["clash"], ("clash",)]), True)
        self.assertIsNone(world_with(NO_P, NONE, NONE, NONE))
        self.assertEqual(no_world_with(rules=NO_P, facts=NONE, have=facts_of("p"), lack=NONE), CLASH)
        self.assertEqual(world_with(rules=WIN, facts=MOVES, have=facts_of("win b"), lack=facts_of("win d")),
                         sure_facts(WIN, MOVES) | facts_of("win b"))
        self.assertIsNone(no_world_with(WIN, MOVES, facts_of("win b"), NONE))
        self.assertEqual(no_world_with(WIN, MOVES, facts_of("win z"), NONE), CLASH)
        self.assertEqual(no_world_with(WIN, MOVES, NONE, facts_of("win c")), CLASH)
        self.assertEqual(no_world_with(WIN, MOVES, NONE, facts_of("move a b")), CLASH)
        self.assertIsNotNone(world_with(WIN, MOVES, MOVES, facts_of("zz")))
        self.assertEqual(kinds_of(no_world_with(NO_P, NONE, NONE, NONE)), kinds_of(paper))

    def test_wrong_papers(self):
        paper = ("split", ("p",), CLASH, CLASH)
        for thing in odd_objects() + [
                CLASH, "clash", ("clash", None), ("split",), paper[:3], paper + (CLASH,), ("clash",) + paper[1:],
                ("split", ("q",), paper, paper), ("split", "p", CLASH, CLASH), ("split", ("p",), CLASH, None),
                ("split", ("p",), None, CLASH), ("split", ("p", 1), CLASH, CLASH), ("split", None, CLASH, CLASH),
                ("split", ("p",), CLASH, ("split", ("q",), CLASH, CLASH)), {0: "clash"}, ["split"], [CLASH]]:
            self.assertIs(is_no_world_with(NO_P, NONE, NONE, NONE, thing), False, thing)
        for thing in (("crash",), ("split",), [None], [["clash"]]):
            self.assertIs(is_no_world_with(NO_P, NONE, facts_of("p"), NONE, thing), False)
        more = ("split", ("p",), ("split", ("p",), CLASH, CLASH), CLASH)
        self.assertIs(is_no_world_with(rules=NO_P, facts=NONE, have=NONE, lack=NONE, thing=more), True)
        for thing in (CLASH, paper, more):
            self.assertIs(is_no_world_with(WIN, MOVES, NONE, NONE, thing), False)
            self.assertIs(is_no_world_with(NO_P, NONE, facts_of("p"), facts_of("p"), thing), True)

    def test_one_of_both_and_papers_against_the_words(self):
        wrong = 0
        for seed in range(500):
            dice = Dice(seed)
            rules, facts = dice.any_nots(seed)
            cases = brute.ground_cases(rules, facts)
            wide = sorted(brute.follows(rules, facts, ("not",)), key=brute.atom_rank)
            if len({case[2] for case in cases}) > 9:
                continue
            slow = slow_worlds(cases, facts)
            some = wide + [("zz",)]
            have = {fact for fact in some if dice.random.random() < 0.15}
            lack = {fact for fact in some if dice.random.random() < 0.15}
            call = (Rules(rules), Facts(facts), Facts(list(have)), Facts(list(lack)))
            fitting = [world for world in slow if have <= world and not lack & world]
            world, paper = world_with(*call), no_world_with(*call)
            self.assertEqual(world is None, not fitting)
            self.assertEqual(paper is None, bool(fitting))
            if fitting:
                self.assertIn(set(world.listed()), fitting)
            else:
                self.assertTrue(is_no_world_with(*call, paper))
                self.assertTrue(is_paper(cases, facts, have, lack, paper))
            for _ in range(3):
                paper = some_paper(dice, wide or [("zz",)], 2)
                if wide:
                    self.assertEqual(is_no_world_with(*call, paper), is_paper(cases, facts, have, lack, paper))
                    wrong += not is_paper(cases, facts, have, lack, paper)
            self.assertEqual((world, no_world_with(*call)),
                             (world_with(Rules(list(rules)), Facts(facts[::-1]), *call[2:]), no_world_with(*call)))
        self.assertGreater(wrong, 100)


class Limits(unittest.TestCase):
    def test_twelve_open_facts(self):
        rules = rules_of("p X if q X, not r X", "r X if q X, not p X", "t if p X, not u")
        facts = Facts([("q", n) for n in range(6)])
        self.assertEqual(len(open_facts(rules, facts)), 13)
        told = steady_worlds(rules, facts)
        self.assertEqual(len(told), 64)
        self.assertEqual(told[0], facts | Facts([("p", n) for n in range(6)]) | facts_of("t"))
        self.assertEqual(told[-1], facts | Facts([("r", n) for n in range(6)]))
        odd = rules_of("p X if q X, not r X", "r X if q X, not p X", "z if p X, p Y, unlike X Y, not z",
                       "z if r X, r Y, unlike X Y, not z")
        paper = no_world_with(odd, facts, NONE, NONE)
        self.assertTrue(is_no_world_with(odd, facts, NONE, NONE, paper))
        self.assertEqual(steady_worlds(odd, facts), [])

    def test_a_paper_of_thousands_of_clashes(self):
        rules = rules_of("a if not b", "b if not a", "z if not z")
        paper = CLASH
        for _ in range(4000):
            paper = ("split", ("a",), CLASH, paper)
        self.assertIs(is_no_world_with(rules, NONE, NONE, NONE, ("split", ("z",), CLASH, CLASH)), True)
        self.assertIs(is_no_world_with(rules, NONE, NONE, NONE, paper), False)
        self.assertIs(is_no_world_with(rules, NONE, facts_of("z"), NONE, paper), True)

    def test_many_cases(self):
        rules = rules_of("w X if m X Y, not w Y", "r X Y if n X, n Y, not w X")
        facts = Facts([("m", n, (n + 1) % 2) for n in range(2)] + [("n", n) for n in range(2, 14)])
        self.assertEqual(len(wide_facts(rules, facts)), 14 + 2 + 144)
        self.assertEqual(len(steady_worlds(rules, facts)), 2)


class Again(unittest.TestCase):
    def test_cases_with_what_is_never(self):
        rules = rules_of("p if not q", "q if not p", "p if r, not t", "r if not s", "t if r, not q")
        facts = facts_of("s")
        self.assertEqual(steady_worlds(rules, facts), [facts_of("p", "s"), facts_of("q", "s")])
        self.assertIsNone(no_world_with(rules, facts, facts_of("q"), facts_of("p", "t")))
        self.assertIs(is_no_world_with(rules, facts, facts_of("q"), facts_of("p"), CLASH), False)

    def test_the_same_rules_with_other_facts_in_between(self):
        rules = rules_of("p if not q", "q if not p", "r if p, f", "w if f, q, not w")
        for _ in range(3):
            for facts in (NONE, facts_of("f"), facts_of("p"), facts_of("f", "q")):
                alone = Rules(rules.listed())
                self.assertEqual(steady_worlds(rules, facts), steady_worlds(alone, facts))
                for have in (NONE, facts_of("q"), facts_of("r"), facts_of("zz")):
                    alone = Rules(rules.listed())
                    self.assertEqual(no_world_with(rules, facts, have, NONE), no_world_with(alone, facts, have, NONE))
                    paper = no_world_with(rules, facts, have, NONE)
                    self.assertEqual(is_no_world_with(rules, facts, have, NONE, paper), paper is not None)
                    self.assertEqual(is_no_world_with(rules, facts, have, NONE, CLASH),
                                     is_no_world_with(Rules(rules.listed()), facts, have, NONE, CLASH))


if __name__ == "__main__":
    unittest.main()
