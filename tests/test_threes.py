"""Points [46], [47], [48], [51]: turns, what is sure, never and open, arguments, halves."""

import unittest

from rulehouse.cases import behind, wide_facts
from rulehouse.errors import NoFact
from rulehouse.facts import Facts
from rulehouse.levels import by_levels, levels
from rulehouse.rules import Rules
from rulehouse.threes import argued, argument, is_halves, open_facts, sure_facts, turns, verdict
from tests import brute
from tests.brute import Dice
from tests.odd import facts_of, kinds_of, odd_objects, rules_of
from tests.test_following import NO_FACTS

WIN = rules_of("win X if move X Y, not win Y")
MOVES = facts_of("move a b", "move b a", "move b c", "move c d")
C = ("win", "c")
CLAIM = ("sure", 0, {"X": "c", "Y": "d"})


def slow_argued(rules, facts, claims):
    """What claims tell: the pair of sets of sure facts and of never ones of wide, None if one is wrong."""
    cases = brute.ground_cases(rules, facts)
    wide = brute.follows(rules, facts, ("not",))
    sure, never = set(facts), set()
    for claim in claims:
        if claim[0] == "sure":
            told = [case for case in cases if case[0] == claim[1] and case[1] == claim[2]]
            if not told or not set(told[0][3]) <= sure or not all([f in never or f not in wide for f in told[0][4]]):
                return None
            sure.add(told[0][2])
        else:
            some = set(claim[1])
            if len(some) != len(claim[1]) or not some or not some <= wide - set(facts):
                return None
            for _, _, head, below, nots in cases:
                if head in some and not set(below) & (some | never) and not set(nots) & sure:
                    return None
            never |= some
    return sure, never


class Outside(unittest.TestCase):
    def test_sets_with_facts_outside_wide_are_no_halves(self):
        rules = rules_of("p if not q")
        self.assertIs(is_halves(rules, Facts([]), facts_of("p"), facts_of("p")), True)
        for low, high in ((["p"], ["p", "q"]), (["q"], ["p", "q"]), (["q"], ["q"]), ([], ["q"]), ([], ["p", "q"]), (["p", "zz"], ["p", "zz"])):
            self.assertIs(is_halves(rules, Facts([]), facts_of(*low), facts_of(*high)), False)


class Turns(unittest.TestCase):
    def test_the_example(self):
        self.assertEqual(turns(WIN, MOVES), [Facts([]), MOVES | facts_of("win a", "win b", "win c"),
                                             MOVES | facts_of("win c")])
        self.assertEqual(sure_facts(WIN, MOVES), MOVES | facts_of("win c"))
        self.assertEqual(open_facts(rules=WIN, facts=MOVES), facts_of("win a", "win b"))
        self.assertEqual([verdict(WIN, MOVES, ("win", thing)) for thing in "abcd"], ["open", "open", "sure", "never"])
        self.assertEqual(verdict(rules=WIN, facts=MOVES, fact=["move", "a", "b"]), "sure")

    def test_rows_of_moves(self):
        for many in range(1, 41):
            facts = Facts([("move", at, at + 1) for at in range(many)])
            sure = [at for at in range(many + 1) if (many - at) % 2 == 1]
            self.assertEqual(sure_facts(WIN, facts), facts | Facts([("win", at) for at in sure]))
            self.assertEqual(open_facts(WIN, facts), Facts([]))
            for at in range(many + 1):
                self.assertEqual(verdict(WIN, facts, ("win", at)), "sure" if at in sure else "never")
            self.assertEqual(len(turns(WIN, facts)), many + 2)

    def test_rings_of_moves(self):
        for many in range(2, 41):
            facts = Facts([("move", at, (at + 1) % many) for at in range(many)])
            wins = Facts([("win", at) for at in range(many)])
            self.assertEqual((sure_facts(WIN, facts), open_facts(WIN, facts)), (facts, wins))
            self.assertEqual({verdict(WIN, facts, fact) for fact in wins.listed()}, {"open"})
            self.assertEqual(turns(WIN, facts), [Facts([]), facts | wins, facts])

    def test_the_same_rules_with_other_facts_in_between(self):
        rules = rules_of("win X if move X Y, not win Y", "left X if move X Y, not move Y X")
        every = [facts_of(*rows) for rows in (["move 1 2"], ["move 1 2", "move 2 1"], [], ["win 1", "move 2 1"])]
        for _ in range(3):
            for facts in every:
                alone = Rules(rules.listed())
                self.assertEqual(turns(rules, facts), turns(alone, facts))
                for low in every + [facts_of("win 7"), facts_of("win 2", "left 1")]:
                    self.assertEqual(behind(rules, facts, low), behind(Rules(rules.listed()), facts, low))
                    for high in every:
                        self.assertEqual(is_halves(rules, facts, low, high), is_halves(Rules(rules.listed()), facts, low, high))
                for fact in (("win", 1), ("win", 2), ("left", 1)):
                    told = argument(rules, facts, fact)
                    self.assertEqual(told, argument(alone, facts, fact))
                    for other in every:
                        self.assertEqual(argued(rules, other, fact, told), argued(Rules(rules.listed()), other, fact, told))
                    self.assertEqual(verdict(rules, facts, fact), verdict(Rules(rules.listed()), facts, fact))

    def test_nothing_at_all(self):
        self.assertEqual(turns(rules=Rules([]), facts=Facts([])), [Facts([]), Facts([])])
        self.assertEqual(turns(Rules([]), MOVES), [Facts([]), MOVES, MOVES])
        self.assertEqual(verdict(Rules([]), Facts([]), ("p",)), "never")
        self.assertEqual(turns(rules_of("p if not p"), Facts([])), [Facts([]), facts_of("p")])
        self.assertEqual(open_facts(rules_of("p if not p"), Facts([])), facts_of("p"))
        self.assertEqual(turns(rules_of("p if not q"), Facts([])), [Facts([]), facts_of("p"), facts_of("p")])

    def test_a_long_row_of_moves(self):
        moves = Facts([("move", n, n + 1) for n in range(39)])
        self.assertEqual(len(turns(WIN, moves)), 41)
        self.assertEqual([verdict(WIN, moves, ("win", n)) for n in range(40)], ["never", "sure"] * 20
                         if verdict(WIN, moves, ("win", 0)) == "never" else ["sure", "never"] * 20)
        self.assertEqual(verdict(WIN, moves, ("win", 38)), "sure")

    def test_errors(self):
        for call in (verdict, argument, lambda *told: argued(*told, None)):
            for thing in NO_FACTS:
                with self.assertRaises(NoFact) as caught:
                    call(WIN, MOVES, thing)
                self.assertIs(caught.exception.thing, thing)

    def test_against_the_words(self):
        for seed in range(300):
            rules, facts = Dice(seed).any_nots(seed)
            cases = brute.ground_cases(rules, facts)
            slow = brute.turns(cases, facts)
            self.assertEqual(turns(Rules(rules), Facts(facts)), [Facts(list(told)) for told in slow])
            last = len(slow) - 1
            sure, possible = (slow[-1], slow[-2]) if last % 2 == 0 else (slow[-2], slow[-1])
            self.assertEqual(sure_facts(Rules(rules), Facts(facts)), Facts(list(sure)))
            self.assertEqual(open_facts(Rules(rules), Facts(facts)), Facts(list(possible - sure)))
            for fact in list(brute.follows(rules, facts, ("not",)))[:6] + [("zz",)]:
                told = "sure" if fact in sure else "open" if fact in possible else "never"
                self.assertEqual(verdict(Rules(rules), Facts(facts), fact), told)
            if levels(Rules(rules)) is not None:
                self.assertEqual((sure, len(possible - sure)),
                                 (set(by_levels(Rules(rules), Facts(facts)).listed()), 0))


class Arguments(unittest.TestCase):
    def test_the_example(self):
        self.assertEqual(argument(WIN, MOVES, C), [CLAIM])
        self.assertEqual(argued(WIN, MOVES, C, [CLAIM]), "sure")
        self.assertEqual(argued(rules=WIN, facts=MOVES, fact=list(C), thing=(["sure", 0, {"Y": "d", "X": "c"}],)), "sure")
        self.assertEqual(argument(rules=WIN, facts=MOVES, fact=("win", "d")), [])
        self.assertEqual(argued(WIN, MOVES, ("win", "d"), []), "never")
        self.assertEqual(argued(WIN, MOVES, ["move", "a", "b"], ()), "sure")
        self.assertEqual(argument(WIN, MOVES, ("move", "a", "b")), [])
        self.assertIsNone(argument(WIN, MOVES, ("win", "a")))
        self.assertIsNone(argued(WIN, MOVES, ("win", "a"), [CLAIM]))
        self.assertIsNone(argued(WIN, MOVES, C, []))
        self.assertEqual(kinds_of(argument(WIN, MOVES, C)), kinds_of([CLAIM]))

    def test_nevers(self):
        rules = rules_of("p if q", "q if p", "r if not p", "s if r, not p", "t if not r", "u if u, not v",
                         "p if not w")
        none = facts_of("w")
        self.assertEqual(argued(rules, none, ("p",), [("never", [("p",), ("q",)])]), "never")
        self.assertEqual(argued(rules, none, ("q",), [["never", (("q",), ["p"])]]), "never")
        never = ("never", [("p",), ("q",)])
        sure = ("sure", 2, {})
        self.assertEqual(argued(rules, none, ("r",), [never, sure]), "sure")
        self.assertEqual(argued(rules, none, ("s",), [never, sure, sure, never, ("sure", 3, {})]), "sure")
        self.assertEqual(argued(rules, none, ("t",), [never, sure, ("never", [("t",)])]), "never")
        self.assertEqual(argued(rules, none, ("u",), []), "never")
        for claims in ([sure], [sure, never], [never, ("sure", 3, {}), sure], [("never", [("p",)])], [("never", [])],
                       [("never", [("p",), ("q",), ("p",)])], [("never", [("p",), ("q",), ("u",)])], [never, ("never",)],
                       [("never", [("p",), ("q",), 1])], [never, ("never", [("t",)])], [never, None], [("never", "p")],
                       [never, ("sure", 2)], [never, ("sure", True, {})], [never, ("sure", 2, {"X": 1})],
                       [never, ("sure", 2, None)], [never, ("sure", 7, {})], [never, ("sure", -5, {})], [never, ("sure", 6, {})],
                       [never, ("sure", 2, {}, None)], [never, ("never", 2, {})], [never, ("sure", [("p",), ("q",)])]):
            self.assertIsNone(argued(rules, none, ("p",), claims), claims)
        later = rules_of("p if not w", "q if p", "r if q, not z", "z if p")
        self.assertEqual(argued(later, none, ("q",), [("never", [("p",)]), ("never", [("q",)])]), "never")
        self.assertEqual(argued(later, none, ("r",), [("never", [("p",)]), ("never", [("q",)]), ("never", [("r",)])]), "never")
        self.assertIsNone(argued(later, none, ("r",), [("never", [("p",)]), ("never", [("r",)]), ("never", [("q",)])]))
        told = argument(rules, none, ("t",))
        self.assertEqual(told[0], ("never", (("p",), ("q",))))
        self.assertEqual(kinds_of(told), kinds_of([("never", (("p",), ("q",))), ("sure", 2, {}),
                                                   ("sure", 3, {}), ("never", (("t",),))]))

    def test_given_facts_are_sure_and_none_of_them_never(self):
        rules = rules_of("p if p", "q if not p", "r if q, unlike X Y, e X Y", "s X if e X Y, unlike X Y, not q")
        given = facts_of("p", "e 1 1", "e 1 2")
        self.assertIsNone(argued(rules, given, ("q",), [("never", [("p",)])]))
        self.assertIsNone(argued(rules, given, ("q",), [("never", [("p",)]), ("sure", 1, {})]))
        self.assertEqual(argued(rules, given, ("q",), [("never", [("q",)])]), "never")
        self.assertEqual(argued(rules, given, ("r",), [("never", [("r",), ("q",)])]), "never")
        claims = [("never", [("q",)]), ("sure", 3, {"X": 1, "Y": 2})]
        self.assertEqual(argued(rules, given, ("s", 1), claims), "sure")
        for match in ({"X": 1, "Y": 1}, {"X": 1}, {"X": 2, "Y": 1}, {"X": True, "Y": 2}, {"X": 1, "Y": 2, "Z": 1},
                      {"X": 1, "Y": None}, {"X": 1, "Z": 2}):
            self.assertIsNone(argued(rules, given, ("p",), [claims[0], ("sure", 3, match)]), match)

    def test_objects_of_all_kinds(self):
        for thing in odd_objects():
            if thing != ():
                self.assertIsNone(argued(WIN, MOVES, C, thing), thing)
                self.assertIsNone(argued(WIN, MOVES, C, [CLAIM, thing]), thing)
                self.assertIsNone(argued(WIN, MOVES, C, [CLAIM, ("never", thing)]), thing)
                self.assertIsNone(argued(WIN, MOVES, C, [CLAIM, ("sure", 0, thing)]), thing)
                self.assertIsNone(argued(WIN, MOVES, C, [CLAIM, ("sure", thing, CLAIM[2])]), thing)
                self.assertIsNone(argued(WIN, MOVES, C, [CLAIM, (thing, 0, CLAIM[2])]), thing)
                self.assertIsNone(argued(WIN, MOVES, C, [CLAIM, ("never", [thing])]), thing)

    def test_each_fact_but_open_ones_has_an_argument(self):
        for seed in range(300):
            rules, facts = Dice(seed).any_nots(seed)
            for fact in sorted(brute.follows(rules, facts, ("not",)), key=brute.atom_rank) + [("zz",)]:
                told = argument(Rules(rules), Facts(facts), fact)
                word = verdict(Rules(rules), Facts(facts), fact)
                if word == "open":
                    self.assertIsNone(told)
                    continue
                self.assertEqual(argued(Rules(rules), Facts(facts), fact, told), word)
                sure, never = slow_argued(rules, facts, told)
                self.assertEqual(fact in sure, word == "sure")
                self.assertEqual(told, argument(Rules(list(map(list, rules))), Facts(facts[::-1]), list(fact)))
                self.assertTrue(all([type(claim) is tuple for claim in told]))

    def test_drawn_claims_tell_what_the_words_say(self):
        right = 0
        for seed in range(600):
            dice = Dice(seed)
            rules, facts = dice.any_nots(seed)
            cases = brute.ground_cases(rules, facts)
            wide = sorted(brute.follows(rules, facts, ("not",)), key=brute.atom_rank)
            claims = []
            for _ in range(dice.random.randint(1, 3)):
                if cases and dice.random.random() < 0.5:
                    case = dice.random.choice(cases)
                    claims.append(("sure", case[0], case[1]))
                else:
                    claims.append(("never", [fact for fact in wide if fact not in facts and dice.random.random() < 0.7]))
            slow = slow_argued(rules, facts, claims)
            for fact in wide + [("zz",)]:
                told = argued(Rules(rules), Facts(facts), fact, claims)
                if slow is None:
                    self.assertIsNone(told)
                    continue
                word = "sure" if fact in slow[0] else "never" if fact in slow[1] or fact not in wide else None
                self.assertEqual(told, word)
                if word is not None:
                    right += 1
                    self.assertEqual(word, verdict(Rules(rules), Facts(facts), fact))
        self.assertGreater(right, 200)


class Halves(unittest.TestCase):
    def test_halves(self):
        sure, possible = sure_facts(WIN, MOVES), sure_facts(WIN, MOVES) | open_facts(WIN, MOVES)
        self.assertIs(is_halves(WIN, MOVES, sure, possible), True)
        self.assertIs(is_halves(rules=WIN, facts=MOVES, low=sure, high=sure), False)
        world = sure | facts_of("win a")
        self.assertIs(is_halves(WIN, MOVES, world, world), True)
        self.assertIs(is_halves(WIN, MOVES, possible, sure), False)
        self.assertIs(is_halves(WIN, MOVES, sure, wide_facts(WIN, MOVES) | facts_of("win d")), False)

    def test_against_the_words(self):
        for seed in range(150):
            rules, facts = Dice(seed).flat(1 + seed % 7, "abcd")
            cases = brute.ground_cases(rules, facts)
            every = list(brute.subsets(brute.follows(rules, facts, ("not",))))
            slow = brute.turns(cases, facts)
            sure, possible = (slow[-1], slow[-2]) if len(slow) % 2 else (slow[-2], slow[-1])
            for low in every:
                for high in every:
                    is_one = low <= high and brute.behind(cases, facts, low) == high and (
                        brute.behind(cases, facts, high) == low)
                    if is_one or seed % 9 == 0:
                        told = is_halves(Rules(rules), Facts(facts), Facts(list(low)), Facts(list(high)))
                        self.assertEqual(told, is_one)
                    if is_one:
                        self.assertTrue(sure <= low and high <= possible)


class Limits(unittest.TestCase):
    def test_many_cases(self):
        rules = rules_of("w X if m X Y, not w Y", "r X Y if n X, n Y, not w X")
        facts = Facts([("m", n, (n * 7 + 3) % 16) for n in range(16)] + [("n", n) for n in range(16)])
        self.assertEqual(len(behind(rules, facts, Facts([]))), 32 + 16 + 256)
        for fact in (("w", 0), ("r", 3, 3), ("r", 15, 2)):
            told = argument(rules, facts, fact)
            word = verdict(rules, facts, fact)
            self.assertEqual(word == "open", told is None)
            self.assertEqual(None if told is None else argued(rules, facts, fact, told), None if told is None else word)


if __name__ == "__main__":
    unittest.main()
