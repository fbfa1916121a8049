"""Points [42], [43], [51]: wide facts, cases, and what is behind a set."""

import unittest

from rulehouse.cases import behind, cases, wide_facts
from rulehouse.facts import Facts
from rulehouse.rules import Rules
from tests import brute
from tests.brute import Dice
from tests.odd import facts_of, kinds_of, rules_of

WIN = rules_of("win X if move X Y, not win Y")
MOVES = facts_of("move a b", "move b a", "move b c", "move c d")
NOTS = ("not", "unlike")


def slow_cases(rules, wide):
    found = []
    for number, (head, body) in enumerate(rules):
        told = brute.matches(wide, body, ("not",))
        found += [(number, calls) for calls in
                  sorted(told, key=lambda calls: [brute.term_rank(thing) for thing in calls.values()])]
    return found


def slow_behind(rules, facts, seen):
    wide = brute.follows(rules, facts, ("not",))
    found = set(facts)
    while True:
        more = set(found)
        for number, calls in slow_cases(rules, wide):
            head, body = rules[number]
            nots = [brute.put(part[1], calls) for part in body if part[0] == "not"]
            plain = [brute.put(atom, calls) for atom in brute.plain(body)]
            if all([fact in found for fact in plain]) and not any([fact in seen for fact in nots]):
                more.add(brute.put(head, calls))
        if more == found:
            return found
        found = more


class Cases(unittest.TestCase):
    def test_wide_facts(self):
        self.assertEqual(wide_facts(WIN, MOVES), MOVES | facts_of("win a", "win b", "win c"))
        self.assertEqual(wide_facts(rules=rules_of("p if not p", "q if unlike 1 1", "r if p, not q"), facts=Facts([])),
                         facts_of("p", "r"))
        self.assertEqual(wide_facts(Rules([]), MOVES), MOVES)

    def test_cases(self):
        self.assertEqual(cases(WIN, MOVES), [(0, {"X": "a", "Y": "b"}), (0, {"X": "b", "Y": "a"}),
                                             (0, {"X": "b", "Y": "c"}), (0, {"X": "c", "Y": "d"})])
        rules = rules_of("p if not p", "q X if not r Y X, s X, s Y, unlike X Y", "p if unlike 1 1", "p")
        self.assertEqual(cases(rules=rules, facts=facts_of("s b", "s 2", "r 2 b")), [
            (0, {}), (1, {"Y": 2, "X": "b"}), (1, {"Y": "b", "X": 2}), (3, {})])
        self.assertEqual(list(cases(rules, facts_of("s b", "s 2"))[1][1]), ["Y", "X"])
        self.assertEqual(cases(Rules([]), MOVES), [])
        self.assertEqual(kinds_of(cases(WIN, MOVES)[:1]), kinds_of([(0, {"X": "a", "Y": "b"})]))

    def test_behind(self):
        self.assertEqual(behind(WIN, MOVES, Facts([])), wide_facts(WIN, MOVES))
        self.assertEqual(behind(WIN, MOVES, wide_facts(WIN, MOVES)), MOVES | facts_of("win c"))
        self.assertEqual(behind(rules=WIN, facts=MOVES, seen=facts_of("win d", "win a")),
                         MOVES | facts_of("win a", "win b"))
        self.assertEqual(behind(rules_of("p if not p"), Facts([]), facts_of("p")), Facts([]))
        self.assertEqual(behind(rules_of("p if not p"), Facts([]), Facts([])), facts_of("p"))
        self.assertEqual(behind(rules_of("p if not q"), facts_of("p"), facts_of("q")), facts_of("p"))

    def test_each_is_new(self):
        told = cases(WIN, MOVES)
        told[0][1]["X"] = 1
        told.append(1)
        self.assertEqual(cases(WIN, MOVES)[0], (0, {"X": "a", "Y": "b"}))

    def test_against_the_words(self):
        for seed in range(200):
            dice = Dice(seed)
            rules, facts = dice.program(seed % 6, NOTS)
            wide = brute.follows(rules, facts, ("not",))
            self.assertEqual(wide_facts(Rules(rules), Facts(facts)), Facts(list(wide)))
            told = cases(Rules(rules), Facts(facts))
            self.assertEqual(told, slow_cases(rules, wide))
            for number, calls in told:
                self.assertEqual(list(calls), brute.letters_in(rules[number][1]))
            seen = [fact for fact in sorted(wide, key=brute.atom_rank) if dice.random.random() < 0.4]
            self.assertEqual(behind(Rules(rules), Facts(facts), Facts(seen)),
                             Facts(list(slow_behind(rules, facts, set(seen)))))


class Limits(unittest.TestCase):
    def test_two_thousand_cases(self):
        rules = rules_of("p X Y if q X, q Y, not r X Y")
        facts = Facts([("q", n) for n in range(40)])
        self.assertEqual(len(cases(rules, facts)), 1600)
        self.assertEqual(len(behind(rules, facts, facts_of("r 1 2"))), 40 + 1599)


if __name__ == "__main__":
    unittest.main()
