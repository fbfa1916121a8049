"""Points [59] to [63]: folds, their levels and rings, and what comes of facts by them."""

import unittest
from itertools import product

from rulehouse.errors import BadFold, RingThroughNot, Unsafe
from rulehouse.facts import Facts
from rulehouse.folds import Folds, fold_levels, fold_ring, folded, is_fold_ring
from rulehouse.levels import by_levels, levels
from rulehouse.rules import Rules
from tests import brute
from tests.brute import Dice
from tests.odd import facts_of, kinds_of, odd_objects, rules_of

COUNT = ("count", ("n", "X"), ("Y",), (("e", "X", "Y"),))
NONE = Rules([])


def fold(word, head, by, body):
    """A fold told in words: its head, its letters, and its body as a rule has it."""
    told = rules_of("h if " + body).listed()[0] if body else (None, ())
    return (word, tuple([int(term) if term.isdigit() else term for term in head.split()]), tuple(by.split()), told[1])


def slow_links(rules, folds):
    found = {}
    for word, rows in (("rule", [(rule[0], rule[1]) for rule in rules]), ("fold", [(row[1], row[3]) for row in folds])):
        for index, (head, body) in enumerate(rows):
            for place, part in enumerate(body):
                if part[0] != "unlike":
                    other = part[1][0] if part[0] == "not" else part[0]
                    found[(word, index, place)] = (head[0], other, word == "fold" or part[0] == "not")
    return found


def is_ring(links, ring):
    told = [links[link] for link in ring]
    return any([link[2] for link in told]) and all(
        [told[index - 1][1] == told[index][0] for index in range(len(told))])


def slow_levels(rules, folds):
    found = {}
    for head, body in [rule for rule in rules] + [(row[1], row[3]) for row in folds]:
        for part in [head] + [part for part in body if part[0] != "unlike"]:
            found[part[1][0] if part[0] == "not" else part[0]] = 0
    while max(found.values(), default=0) <= len(found):
        low = [one for one, other, strict in slow_links(rules, folds).values() if found[one] < found[other] + strict]
        if not low:
            return found
        found[low[0]] += 1
    return None


def slow_told(row, facts):
    word, head, by, body = row
    groups = {}
    for calls in brute.matches(facts, body):
        groups.setdefault(brute.put(head, calls), set()).add(tuple([calls[letter] for letter in by]))
    found = set()
    for group, rows in groups.items():
        firsts = sorted([told[0] for told in rows], key=brute.term_rank)
        numbers = [first for first in firsts if isinstance(first, int)]
        result = {"count": len(rows), "sum": sum(numbers) if numbers else None, "least": firsts[0],
                  "most": firsts[-1]}[word]
        if result is not None:
            found.add(group + (result,))
    return found


def slow_folded(facts, rules, folds):
    found = slow_levels(rules, folds)
    standing = set(facts)
    for level in range(max(found.values(), default=-1) + 1):
        standing = standing.union(*[slow_told(row, standing) for row in folds if found[row[1][0]] == level])
        here = [rule for rule in rules if found[rule[0][0]] == level]
        while not brute.heads(here, standing) <= standing:
            standing |= brute.heads(here, standing)
    return standing


def drawn(seed):
    """Rules and folds, with few rings, and facts."""
    dice = Dice(seed)
    kinds = {"e": 2, "f": 1, "p": 1, "q": 2, "s": 1}
    things = ["a", 2, -3]
    rules = [dice.rule(2, {"p": 1, "q": 2, "s": 1}, kinds, "XYZ", things, ("not", "unlike"))
             for _ in range(seed % 4)]
    folds = []
    for _ in range(1 + seed % 3):
        body = dice.body(2, {"e": 2, "f": 1, "p": 1, "q": 2}, "XYZ", things, ("not", "unlike"))
        letters = brute.letters_in(brute.plain(body))
        if letters:
            by = dice.random.sample(letters, dice.random.randint(1, len(letters)))
            head = (dice.random.choice("gqs"),) + tuple(
                [dice.random.choice(letters + ["a"]) for _ in range(dice.random.randint(0, 2))])
            folds.append((dice.random.choice(("count", "sum", "least", "most")), head, tuple(by), tuple(body)))
    return rules, folds, dice.facts(dice.random.randint(0, 7), {"e": 2, "f": 1}, things)


class MadeFolds(unittest.TestCase):
    def test_listed(self):
        told = [["sum", ["n", "X"], ["Y", "Z"], [["e", "X", "Y"], ["not", ["f", "X"]], ["e", "Y", "Z"]]], COUNT]
        folds = Folds(told)
        self.assertEqual(folds.listed(), [("sum", ("n", "X"), ("Y", "Z"), (("e", "X", "Y"), ("not", ("f", "X")),
                                                                         ("e", "Y", "Z"))), COUNT])
        self.assertEqual(kinds_of(folds.listed()[1]), kinds_of(COUNT))
        folds.listed().clear()
        told.clear()
        self.assertEqual(len(folds), 2)
        self.assertEqual(folds, Folds(folds=tuple(folds.listed())))
        self.assertNotEqual(folds, Folds(folds.listed()[::-1]))
        self.assertEqual((len(Folds([])), Folds(()), Folds([]).listed()), (0, Folds([]), []))
        for thing in odd_objects() + [folds.listed()]:
            self.assertNotEqual(folds, thing)

    def test_bad_folds(self):
        for thing in odd_objects():
            if thing not in ([], ()) or isinstance(thing, (Facts, Rules)):
                with self.assertRaises(BadFold) as caught:
                    Folds(thing)
                self.assertEqual(caught.exception.index, 0)
        unsafe = ("count", ("n", "X"), ("Y",), ())
        body = (("e", "X", "Y"),)
        for thing in odd_objects() + [
                COUNT[:3], COUNT + ((),), ("many",) + COUNT[1:], (["count"],) + COUNT[1:], (None,) + COUNT[1:],
                ("count", "n", ("Y",), body), ("count", ("n", "X"), (), body), ("count", ("n", "X"), ("Y", "Y"), body),
                ("count", ("n", "X"), "Y", body), ("count", ("n", "X"), ("y",), body), ("count", ("n", "X"), (1,), body),
                ("count", ("n", "X"), ("Y",), (("e", "X", "y!"),)), ("count", ("n", "X"), ("Y",), "e"),
                ("count", ("n",) + ("X",) * 6, ("Y",), body), ("count", ("not", "X"), ("Y",), body),
                ("count", ("n", "X"), {"Y": 1}, body), {0: "count", 1: ("n",), 2: ("Y",), 3: body}]:
            with self.assertRaises(BadFold) as caught:
                Folds([COUNT, unsafe, thing])
            self.assertEqual(caught.exception.index, 2)
        self.assertEqual(len(Folds([("count", ("n",) + ("X",) * 5, ("Y",), body)])), 1)

    def test_unsafe(self):
        for thing, letter in ((("count", ("n", "X", "Z"), ("W",), (("e", "X", "Y"), ("not", ("e", "V", "X")))), "Z"),
                              (("count", ("n", "X"), ("Y", "W"), (("unlike", "V", "X"), ("e", "X", "Y"))), "W"),
                              (("count", ("n", "X"), ("Y",), (("unlike", "V", "X"), ("e", "X", "Y"), ("not", ("f", "U")))), "V"),
                              (("count", ("n",), ("Y",), (("not", ("f", "Y")),)), "Y")):
            with self.assertRaises(Unsafe) as caught:
                Folds([COUNT, thing, ("count", ("n", "Z"), ("Y",), ())])
            self.assertEqual((caught.exception.index, caught.exception.letter), (1, letter))


class Levels(unittest.TestCase):
    def test_levels(self):
        rules = rules_of("big X if n X 2, not f X", "e X Y if f2 X Y")
        folds = Folds([COUNT, fold("count", "m", "X", "big X, not z X, unlike X 1")])
        told = fold_levels(rules, folds)
        self.assertEqual(told, {"big": 1, "e": 0, "f": 0, "f2": 0, "m": 2, "n": 1, "z": 0})
        self.assertEqual(list(told), sorted(told))
        self.assertIsNone(fold_ring(rules=rules, folds=folds))
        self.assertEqual(fold_levels(rules=NONE, folds=Folds([])), {})
        told.clear()
        self.assertEqual(len(fold_levels(rules, folds)), 7)

    def test_rings(self):
        rules = rules_of("e X Y if n X Y", "n X Y if e X Y, not e Y X")
        folds = Folds([COUNT])
        self.assertEqual(fold_ring(rules, folds), [("rule", 1, 1), ("rule", 0, 0)])
        self.assertIsNone(fold_levels(rules, folds))
        one = rules_of("a if a", "e X Y if e Y X")
        self.assertIsNone(fold_ring(one, folds))
        self.assertEqual(fold_ring(NONE, Folds([fold("most", "e 1", "X", "f X, e X Y")])), [("fold", 0, 1)])
        # Relations are one by their names alone, whatever their places.
        self.assertIsNone(fold_levels(NONE, Folds([fold("most", "e", "X", "e X Y")])))
        self.assertEqual(kinds_of(fold_ring(rules, folds)), kinds_of([("rule", 1, 1), ("rule", 0, 0)]))

    def test_is_fold_ring(self):
        rules, folds = rules_of("e X Y if n X Y", "n X Y if e X Y, unlike X Y, not e Y X"), Folds([COUNT])
        for thing in ([("rule", 1, 2), ("rule", 0, 0)], (["rule", 0, 0], ["rule", 1, 2]), [("fold", 0, 0), ("rule", 0, 0)],
                      [("rule", 0, 0), ("rule", 1, 0), ("rule", 0, 0), ["rule", 1, 2]]):
            self.assertIs(is_fold_ring(rules=rules, folds=folds, thing=thing), True, thing)
        right = ("rule", 0, 0)
        for thing in odd_objects() + [[right, ("rule", 1, 0)], [right], [("rule", 1, 2)], [("fold", 0, 0), ("fold", 0, 0)],
                                      [right, ("rule", 1, 1)], [right, ("rule", 1, 3)], [right, ("rule", 2, 0)],
                                      [right, ("rule", True, 2)], [right, ("fold", 1, 0)], [right, ("fold", 0, False)],
                                      [right, ("rule", 1)], [right, ("none", 1, 2)], [right, ("rule", 1, 2, 0)],
                                      [right, ("rule", -1, 2)], [right, ("rule", 1, -1)], "rule", [right, (["rule"], 1, 2)]]:
            self.assertIs(is_fold_ring(rules, folds, thing), False, thing)
        for thing in odd_objects():
            for link in ((thing, 1, 2), ("rule", thing, 2), ("rule", 1, thing), thing):
                self.assertIs(is_fold_ring(rules, folds, [right, link]), False, link)

    def test_against_the_words(self):
        for seed in range(400):
            rules, folds, facts = drawn(seed)
            links = slow_links(rules, folds)
            told = fold_levels(Rules(rules), Folds(folds))
            ring = fold_ring(Rules(rules), Folds(folds))
            self.assertEqual(told, slow_levels(rules, folds))
            self.assertNotEqual(told is None, ring is None)
            if ring is not None:
                self.assertTrue(is_ring(links, ring))
                self.assertTrue(is_fold_ring(Rules(rules), Folds(folds), ring))
                if len(ring) < 4 and len(links) < 8:
                    for many in range(1, len(ring)):
                        self.assertFalse(any([is_ring(links, row) for row in product(links, repeat=many)]))
            for _ in range(3):
                row = [Dice(seed).random.choice(list(links) or [None]) for _ in range(2)]
                if links:
                    self.assertEqual(is_fold_ring(Rules(rules), Folds(folds), row), is_ring(links, row))


class Folded(unittest.TestCase):
    def told(self, rows, *folds, rules=NONE):
        given = facts_of(*rows)
        return [fact for fact in folded(given, rules, Folds(folds)).listed() if fact not in given]

    def test_words(self):
        rows = ["e a 1", "e a 3", "e a x", "e b x", "e b a", "e c 3", "e c -1"]
        for word, results in (("count", (3, 2, 2)), ("sum", (4, None, 2)), ("least", (1, "a", -1)), ("most", ("x", "x", 3))):
            self.assertEqual(self.told(rows, fold(word, "n X", "Y", "e X Y")),
                             [("n", thing, result) for thing, result in zip("abc", results) if result is not None])
        self.assertEqual(self.told(rows, fold("count", "n", "X", "e X Y")), [("n", 3)])
        self.assertEqual(self.told([], fold("count", "n", "X", "e X Y")), [])
        self.assertEqual(self.told(rows, fold("sum", "n", "Y", "e X Y")), [("n", 3)])
        self.assertEqual(self.told(rows, fold("sum", "n", "Y X", "e X Y")), [("n", 6)])
        self.assertEqual(self.told(rows, fold("sum", "n", "X Y", "e X Y")), [])
        self.assertEqual(self.told(["e 0 0"], fold("sum", "n", "X", "e X Y")), [("n", 0)])

    def test_parts(self):
        rows = ["e a b", "e b b", "e c a", "f a"]
        self.assertEqual(self.told(rows, fold("count", "n 1 Y", "X", "e X Y, not f X, unlike X Y")), [("n", 1, "a", 1)])
        self.assertEqual(self.told(["r -5", "r 10"], fold("least", "low", "X", "r X"), fold("most", "r2", "X", "low X")),
                         [("low", -5), ("r2", -5)])

    def test_level_by_level(self):
        rules = rules_of("way X Y if e X Y", "way X Z if way X Y, e Y Z", "big X if many X 2", "small X if e X Y, not big X")
        folds = [fold("count", "many X", "Y", "way X Y"), fold("count", "bigs", "X", "big X"),
                 fold("most", "top", "N X", "many X N")]
        self.assertEqual(self.told(["e a b", "e b c", "e d c", "big z"], *folds, rules=rules),
                         [("big", "a"), ("bigs", 2), ("many", "a", 2), ("many", "b", 1), ("many", "d", 1), ("small", "b"),
                          ("small", "d"), ("top", 2), ("way", "a", "b"), ("way", "a", "c"), ("way", "b", "c"),
                          ("way", "d", "c")])

    def test_two_folds_and_rules_of_one_level(self):
        rules = rules_of("n X 7 if n X 2")
        self.assertEqual(self.told(["e a b", "e a c", "e b c"], COUNT, fold("least", "n X", "Y", "e X Y"), rules=rules),
                         [("n", "a", 2), ("n", "a", 7), ("n", "a", "b"), ("n", "b", 1), ("n", "b", "c")])

    def test_rings_are_refused(self):
        rules, folds = rules_of("e X Y if n X Y"), Folds([COUNT])
        with self.assertRaises(RingThroughNot) as caught:
            folded(facts=Facts([]), rules=rules, folds=folds)
        self.assertEqual(caught.exception.ring, fold_ring(rules, folds))

    def test_against_the_words(self):
        many = 0
        for seed in range(500):
            rules, folds, facts = drawn(seed)
            if slow_levels(rules, folds) is None:
                self.assertRaises(RingThroughNot, folded, Facts(facts), Rules(rules), Folds(folds))
                continue
            many += 1
            told = folded(Facts(facts), Rules(rules), Folds(folds))
            self.assertEqual(told, Facts(list(slow_folded(facts, rules, folds))), (rules, folds, facts))
            if levels(Rules(rules)) is not None:
                self.assertEqual(folded(Facts(facts), Rules(rules), Folds([])), by_levels(Rules(rules), Facts(facts)))
        self.assertGreater(many, 150)


class Limits(unittest.TestCase):
    def test_sixty_facts(self):
        facts = Facts([("e", n, m) for n in range(10) for m in range(6)])
        folds = Folds([("sum", ("s", "X"), ("Z", "Y"), (("e", "X", "Y"), ("e", "Y", "Z"), ("not", ("e", "Z", "X"))))] * 3 + [
            ("count", ("c",), ("X", "Y", "Z", "W"), (("e", "X", "Y"), ("e", "Y", "Z"), ("e", "Z", "W"), ("e", "X", "W")))] * 3)
        told = folded(facts, NONE, folds)
        self.assertEqual(told.of("c", 1), [("c", 10 * 6 * 6 * 6)])
        self.assertEqual(told.of("s", 2)[-1], ("s", 9, sum([z for y in range(6) for z in range(6)])))


if __name__ == "__main__":
    unittest.main()
