"""Points [87], [88], [89], [91]: words of way rules, their machines, and words within words."""

import unittest
from itertools import product

from rulehouse.errors import BadNumber, NotPlain, NoWay
from rulehouse.facts import Facts
from rulehouse.following import what_follows
from rulehouse.rules import Rules
from rulehouse.ways import is_way_paper, parting_way, way_paper, word_machine, words_of
from tests.brute import Dice
from tests.odd import kinds_of, odd_objects, rules_of
from tests.test_programs import NOTS, ROUGH

WAY = rules_of("way X Y if edge X Y", "way X Z if edge X Y, way Y Z")
EVEN = rules_of("way X Z if edge X Y, edge Y Z", "way X Z if edge X Y, edge Y V, way V Z")
EMPTY = Rules([])


def slow_words(rules, relation, most):
    """The set of all words up to so many signs."""
    made = {head[0] for head, body in rules}
    words = {told: set() for told in made}
    while True:
        more = {told: set(row) for told, row in words.items()}
        for head, body in rules:
            row = tuple([atom[0] for atom in body])
            ends = words[row[-1]] if row[-1] in made else {(row[-1],)}
            more[head[0]] |= {row[:-1] + end for end in ends if len(row) - 1 + len(end) <= most}
        if more == words:
            return words.get(relation, set())
        words = more


def ranked(words):
    return sorted(words, key=lambda word: (len(word), word))


def told_by(machine, word):
    """Whether a machine tells a word."""
    at = 0 if machine else None
    for sign in word:
        at = None if at is None else machine[at][1].get(sign)
    return at is not None and machine[at][0]


def drawn(seed, signs="ef"):
    """Way rules of the relations v, w and x."""
    dice = Dice(seed)
    rules = []
    made = "vwx"[:1 + seed % 3]
    for index in range(1 + seed % 7):
        row = [dice.random.choice(signs) for _ in range(dice.random.randint(0 if seed % 4 else 1, 2))]
        row.append(dice.random.choice(made) if dice.random.random() < 0.55 else dice.random.choice(signs))
        head = made[index] if index < len(made) else dice.random.choice(made)
        letters = ["A", "B", "C", "D"][:len(row) + 1]
        rules.append(((head, "A", letters[-1]), tuple([(sign, one, other) for sign, one, other in zip(row, letters, letters[1:])])))
    heads = {head[0] for head, body in rules}
    return [(head, body) for head, body in rules if all([atom[0] not in heads for atom in body[:-1]])]


CALLS = [lambda rules: words_of(rules, "way", None), lambda rules: word_machine(rules, "way"),
         lambda rules: parting_way(rules, rules, "way"), lambda rules: way_paper(rules, rules, "way"),
         lambda rules: is_way_paper(rules, rules, "way", None)]


class WayRules(unittest.TestCase):
    def test_no_way_rules(self):
        for row in ("way X if edge X Y", "way X X if edge X X", "way X Y if edge Y X", "way X Y if edge X Y, edge X Y", "way a Y if edge a Y",
                    "way X Y if edge X Z, edge Z Y Y", "way X Y if edge X Z, edge Y Z", "way X X if edge X Y, edge Y X", "way 1 2",
                    "way X Y if edge X Z, edge Z X, edge X Y", "way X Y if edge X Y, edge Y Z, edge Z Y", "way X Y if edge X 1, edge 1 Y",
                    "way X Z if way X Y, edge Y Z", "way X Z if way X Y, way Y Z", "other X Z if way X Y, edge Y Z", "way X X if edge X Y, e Y Z",
                    "way X Y if edge X Z, edge Z V, edge V W, edge W Z, edge Z Y", "way X Y if edge X Y, edge Y Y"):
            if row.startswith("way 1") or " X if" in row or " X Y Y" in row or "way X if" in row:
                rules = Rules([(("zz", "X", "Y"), (("edge", "X", "Y"),))] + rules_of(row).listed())
            elif row == "way X Y if edge X Z, edge Z Y Y":
                continue
            else:
                rules = rules_of("way X Y if edge X Y", row)
            for call in CALLS:
                with self.assertRaises(NoWay) as caught:
                    call(rules)
                self.assertEqual(caught.exception.index, 1, row)

    def test_relations_with_other_numbers_of_places(self):
        for row in ("way X Y if f X, g Y", "way X Y if t X Y Y", "way X Y if edge X Z, t Z Y 1", "t X Y Z if t2 X Y Z", "g X if f X"):
            for call in CALLS:
                with self.assertRaises(NoWay) as caught:
                    call(rules_of("v X Y if edge X Y", row))
                self.assertEqual(caught.exception.index, 1, row)

    def test_order_of_errors(self):
        bad = rules_of("p X if q X")
        for call in CALLS:
            for rules in (ROUGH, NOTS):
                with self.assertRaises(NotPlain) as caught:
                    call(rules)
                self.assertEqual(caught.exception.index, 1)
        for call in (parting_way, way_paper, lambda *told: is_way_paper(*told, None)):
            for one, other, error, index in ((bad, ROUGH, NotPlain, 1), (WAY, ROUGH, NotPlain, 1), (bad, WAY, NoWay, 0),
                                             (WAY, bad, NoWay, 0), (rules_of("w X Y if e X Y", "w X X if e X X"), bad, NoWay, 1)):
                with self.assertRaises(error) as caught:
                    call(one, other, "way")
                self.assertEqual(caught.exception.index, index)
        for thing in odd_objects() + [-1, "1", [1]]:
            with self.assertRaises(BadNumber) as caught:
                words_of(WAY, "way", thing)
            self.assertIs(caught.exception.thing, thing)
        self.assertRaises(NoWay, words_of, bad, "way", -1)

    def test_relations_of_two_programs(self):
        # A sign of the one may be made by the other.
        one, other = rules_of("w X Z if v X Y, e Y Z"), rules_of("w X Y if v X Y", "v X Y if e X Y")
        self.assertEqual(parting_way(one, other, "w"), ("v", "e"))
        self.assertEqual(parting_way(other, one, "w"), ("e",))


class Words(unittest.TestCase):
    def test_words(self):
        self.assertEqual(words_of(WAY, "way", 3), [("edge",), ("edge", "edge"), ("edge", "edge", "edge")])
        self.assertEqual(words_of(rules=EVEN, relation="way", most=5), [("edge",) * 2, ("edge",) * 4])
        self.assertEqual((words_of(WAY, "way", 0), words_of(WAY, "edge", 4), words_of(EMPTY, "way", 4)), ([], [], []))
        mixed = rules_of("w X Z if b X Y, a Y Z", "w X Y if b X Y", "w X Z if a X Y, c Y Z", "w X Y if v X Y", "v X Y if a X Y", "x X Y if x X Y")
        self.assertEqual(words_of(mixed, "w", 2), [("a",), ("b",), ("a", "c"), ("b", "a")])
        self.assertEqual((words_of(mixed, "x", 9), word_machine(mixed, "x")), ([], []))
        for thing in odd_objects():
            self.assertEqual((words_of(WAY, thing, 3), word_machine(WAY, thing)), ([], []))
        self.assertEqual(kinds_of(words_of(EVEN, "way", 3)), kinds_of([("edge", "edge")]))

    def test_against_the_words(self):
        for seed in range(400):
            rules = drawn(seed)
            for relation in "vwx":
                slow = slow_words(rules, relation, 5)
                for most in (0, 1, 3, 5):
                    self.assertEqual(words_of(Rules(rules), relation, most), ranked([word for word in slow if len(word) <= most]))
                machine = word_machine(Rules(rules), relation)
                for word in [word for many in range(5) for word in product("ef", repeat=many)]:
                    self.assertEqual(told_by(machine, word), word in slow)

    def test_rows_of_facts(self):
        for seed in range(100):
            rules = drawn(seed)
            dice = Dice(seed)
            for _ in range(4):
                row = [dice.random.choice("ef") for _ in range(dice.random.randint(1, 4))]
                facts = Facts([(sign, n, n + 1) for n, sign in enumerate(row)])
                for relation in "vwx":
                    self.assertEqual((relation, 0, len(row)) in what_follows(Rules(rules), facts),
                                     tuple(row) in words_of(Rules(rules), relation, 4))


class Machines(unittest.TestCase):
    def test_machines(self):
        self.assertEqual(word_machine(WAY, "way"), [(False, {"edge": 1}), (True, {"edge": 1})])
        self.assertEqual(word_machine(rules=EVEN, relation="way"), [(False, {"edge": 1}), (False, {"edge": 2}), (True, {"edge": 1})])
        mixed = rules_of("w X Z if b X Y, a Y Z", "w X Y if b X Y", "w X Z if a X Y, c Y Z", "w X Z if a X Y, v Y Z", "v X Y if v X Y")
        self.assertEqual(word_machine(mixed, "w"), [(False, {"a": 1, "b": 2}), (False, {"c": 3}), (True, {"a": 3}), (True, {})])
        self.assertEqual([list(steps) for is_end, steps in word_machine(mixed, "w")][0], ["a", "b"])
        self.assertEqual(word_machine(EMPTY, "way"), [])
        self.assertEqual(kinds_of(word_machine(WAY, "way")), kinds_of([(False, {"edge": 1}), (True, {"edge": 1})]))

    def test_they_are_least_and_numbered_as_they_are_met(self):
        big = 0
        for seed in range(400):
            machine = word_machine(Rules(drawn(seed, "efg")), "v")
            met = [0] if machine else []
            for is_end, steps in machine:
                self.assertEqual(list(steps), sorted(steps))
                met.extend([other for other in steps.values() if other not in met])
            met = list(dict.fromkeys(met))
            self.assertEqual(met, list(range(len(machine))))
            signs = sorted({sign for is_end, steps in machine for sign in steps})
            words = [word for many in range(len(machine) + 1) for word in product(signs, repeat=many)] if len(machine) < 6 else []
            rows = []
            for index in range(len(machine)):
                def ends(word, at=index):
                    for sign in word:
                        at = None if at is None else machine[at][1].get(sign)
                    return at is not None and machine[at][0]
                rows.append(tuple([word for word in words if ends(word)]))
            if words:
                big += len(machine) > 3
                self.assertTrue(all(rows))
                self.assertEqual(len(rows), len(set(rows)))
        self.assertGreater(big, 40)


class Within(unittest.TestCase):
    def test_within(self):
        self.assertIsNone(parting_way(EVEN, WAY, "way"))
        self.assertEqual(parting_way(one=WAY, other=EVEN, relation="way"), ("edge",))
        self.assertEqual(way_paper(EVEN, WAY, "way"), [(0, 0), (1, 1), (2, 1)])
        self.assertIsNone(way_paper(one=WAY, other=EVEN, relation="way"))
        self.assertEqual(parting_way(EVEN, EMPTY, "way"), ("edge", "edge"))
        self.assertIsNone(way_paper(EVEN, EMPTY, "way"))
        self.assertEqual((parting_way(EMPTY, EVEN, "way"), way_paper(EMPTY, EVEN, "way"), way_paper(WAY, WAY, None)), (None, [], []))
        self.assertEqual(kinds_of(way_paper(EVEN, WAY, "way")), kinds_of([(0, 0)] * 3))

    def test_is_way_paper(self):
        self.assertIs(is_way_paper(one=EVEN, other=WAY, relation="way", thing=[[2, 1], (0, 0), (1, 1), (2, 1)]), True)
        right = [(0, 0), (1, 1), (2, 1)]
        for thing in odd_objects() + [right[1:], right[:2], [(0, 0), (1, 1), (2, 0)], right + [(3, 1)], right + [(0, 2)], right + [(True, 1)],
                                      right + [(2, 0)], right + [(1, 1, 1)], right + [(-1, 1)], right + [None], {(0, 0): 1}, right + [(1, True)],
                                      right + [("0", 0)]]:
            self.assertIs(is_way_paper(EVEN, WAY, "way", thing), False, thing)
        self.assertIs(is_way_paper(EVEN, WAY, "way", right + [(0, 1), (1, 0)]), True)
        self.assertIs(is_way_paper(EMPTY, WAY, "way", []), True)
        self.assertIs(is_way_paper(EMPTY, WAY, "way", [(0, 0)]), False)
        self.assertIs(is_way_paper(WAY, EMPTY, "way", []), False)

    def test_against_the_words(self):
        apart = 0
        for seed in range(400):
            one, other = drawn(seed), drawn(seed + 900)
            if seed % 4 == 0:
                other = (one + other)[:9]
                heads = {head[0] for head, body in other}
                other = [(head, body) for head, body in other if all([atom[0] not in heads for atom in body[:-1]])]
            mine, theirs = Rules(one), Rules(other)
            for relation in "vw":
                word, paper = parting_way(mine, theirs, relation), way_paper(mine, theirs, relation)
                self.assertNotEqual(word is None, paper is None)
                left = ranked(slow_words(one, relation, 6) - slow_words(other, relation, 6))
                if word is None or len(word) <= 6:
                    self.assertEqual(word, left[0] if left else None)
                else:
                    self.assertEqual(left, [])
                if paper is not None:
                    self.assertTrue(is_way_paper(mine, theirs, relation, paper))
                    self.assertEqual(paper, sorted(paper))
                    for at in range(len(paper)):
                        self.assertFalse(is_way_paper(mine, theirs, relation, paper[:at] + paper[at + 1:]))
                else:
                    apart += 1
                    facts = Facts([(sign, n, n + 1) for n, sign in enumerate(word)])
                    heads = [{head[0] for head, body in rules} for rules in (one, other)]
                    signs = [{atom[0] for head, body in rules for atom in body} - made for rules, made in zip((one, other), heads)]
                    if not heads[0] & signs[1] and not heads[1] & signs[0]:
                        end = (relation, 0, len(word))
                        self.assertTrue(end in what_follows(mine, facts) and end not in what_follows(theirs, facts))
        self.assertTrue(150 < apart < 750, apart)


class Limits(unittest.TestCase):
    def test_long_machines(self):
        rules = []
        for many in (2, 3, 4, 4):
            letters = ["A", "B", "C", "D", "E"][:many + 1]
            rules.append((("w", "A", letters[-1]), tuple([("e" if n < many - 1 else "w", one, other) for n, (one, other) in
                                                          enumerate(zip(letters, letters[1:]))])))
        rules.append((("w", "A", "B"), (("f", "A", "B"),)))
        self.assertEqual(len(words_of(Rules(rules), "w", 12)), 12)
        five = rules_of(*["w X Z if " + sign + " X Y, w Y Z" for sign in "abcde"] + ["w X Y if a X Y"])
        self.assertEqual(len(words_of(five, "w", 4)), 1 + 5 + 25 + 125)
        self.assertEqual(len(word_machine(five, "w")), 2)


if __name__ == "__main__":
    unittest.main()
