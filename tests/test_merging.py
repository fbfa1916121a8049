"""Points [108], [110]: two changes of one base together."""

import unittest

from rulehouse.errors import RingThroughNot
from rulehouse.facts import Facts
from rulehouse.levels import is_not_ring, levels
from rulehouse.merging import merged, odd_ones
from rulehouse.rules import Rules
from tests import brute
from tests.brute import Dice
from tests.odd import facts_of, kinds_of, rules_of
from tests.test_kept import ODD_RING, brute_levels, drawn

RULES = rules_of("pair if p, q", "none if not p, not q", "some if p", "some if q", "lack if not p")


def drawn_flat(seed):
    while True:
        rules, facts = Dice(seed).flat(4, "abcdef")
        if levels(Rules(rules)) is not None:
            return rules, facts
        seed += 10000


class Merged(unittest.TestCase):
    def test_merged(self):
        base, one, other = facts_of("a", "b", "c"), facts_of("a", "b", "x", "y"), facts_of("b", "c", "y", "z")
        self.assertEqual(merged(base, one, other), facts_of("b", "x", "y", "z"))
        self.assertEqual(merged(base=one, one=one, other=other), other)
        self.assertEqual(merged(other, one, other), one)
        self.assertEqual(merged(Facts([]), one, other), one | other)
        self.assertIsInstance(merged(base, one, other), Facts)

    def test_odd_ones(self):
        self.assertEqual(odd_ones(RULES, Facts([]), facts_of("p"), facts_of("q")), [(("pair",), "new")])
        self.assertEqual(odd_ones(RULES, facts_of("p", "q"), facts_of("p"), facts_of("q")), [
            (("none",), "new"), (("some",), "lost")])
        self.assertEqual(odd_ones(rules_of("r if p, not q"), Facts([]), facts_of("p"), facts_of("q")), [(("r",), "undone")])
        self.assertEqual(odd_ones(rules_of("r if p, not q", "r if s"), facts_of("s"), facts_of("s", "q"), Facts([])), [])
        self.assertEqual(odd_ones(rules_of("r if p", "r if q"), facts_of("p"), facts_of("p", "q"), Facts([])), [(("r",), "stays")])
        self.assertEqual(odd_ones(rules=RULES, base=Facts([]), one=Facts([]), other=facts_of("q")), [])
        self.assertEqual(kinds_of(odd_ones(RULES, Facts([]), facts_of("p"), facts_of("q"))), kinds_of([(("pair",), "new")]))

    def test_rings_through_nots(self):
        with self.assertRaises(RingThroughNot) as caught:
            odd_ones(ODD_RING, Facts([]), Facts([]), Facts([]))
        self.assertTrue(is_not_ring(ODD_RING, caught.exception.ring))

    def test_against_the_words(self):
        words = {}
        for seed in range(1000):
            rules, base = drawn(seed) if seed % 2 else drawn_flat(seed)
            dice = Dice(seed)
            kinds = {"p": 1, "q": 2, "r": 1, "e": 2, "f": 1} if seed % 2 else {name: 0 for name in "abc"}
            sides = []
            for _ in range(2):
                gone = dice.random.sample(base, min(len(base), dice.random.randint(0, 2)))
                sides.append((set(base) - set(gone)) | set(dice.facts(dice.random.randint(0, 3), kinds, ["a", "b", 3])))
            one, other = sides
            both = (one & other) | {fact for fact in one ^ other if fact not in base}
            told = [Facts(sorted(facts, key=str)) for facts in (set(base), one, other)]
            self.assertEqual(set(merged(*told).listed()), both)
            self.assertEqual(merged(told[0], told[2], told[1]), merged(*told))
            ahead, first, second, together = [brute_levels(rules, facts) for facts in (set(base), one, other, both)]
            slow = []
            for fact in sorted(ahead | first | second | together, key=brute.atom_rank):
                sides_with = (fact in first) + (fact in second)
                if fact in together and sides_with == 0:
                    slow.append((fact, "new"))
                if fact not in together and sides_with == 2:
                    slow.append((fact, "lost"))
                if sides_with == 1 and fact not in ahead and fact not in together:
                    slow.append((fact, "undone"))
                if sides_with == 1 and fact in ahead and fact in together:
                    slow.append((fact, "stays"))
            self.assertEqual(odd_ones(Rules(rules), *told), slow)
            for fact, word in slow:
                words[word] = words.get(word, 0) + 1
        self.assertGreater(min([words.get(word, 0) for word in ("new", "lost", "undone", "stays")]), 0)


if __name__ == "__main__":
    unittest.main()
