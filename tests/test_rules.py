"""Points [8], [14], [15], [23]: lists of safe rules, and what hangs on what."""

import unittest

from rulehouse.errors import BadRule, NoRule, Uneven, Unsafe
from rulehouse.rules import Rules, hangs_on, is_in_ring, rings
from tests.brute import Dice
from tests.odd import kinds_of, odd_objects, rules_of

WAY = [(("way", "X", "Y"), [("edge", "X", "Y")]), [["way", "X", "Z"], [["edge", "X", "Y"], ["way", "Y", "Z"]]]]


class Making(unittest.TestCase):
    def test_listed(self):
        self.assertEqual(Rules(WAY).listed(), [
            (("way", "X", "Y"), (("edge", "X", "Y"),)), (("way", "X", "Z"), (("edge", "X", "Y"), ("way", "Y", "Z")))])
        self.assertEqual(Rules(rules=tuple(WAY)).listed(), Rules(WAY).listed())
        self.assertEqual(kinds_of(Rules([[["p"], [["not", ["q"]]]]]).listed()), kinds_of([(("p",), (("not", ("q",)),))]))
        self.assertEqual(Rules([]).listed(), [])

    def test_one_may_stand_twice(self):
        rules = Rules([WAY[0], WAY[0]])
        self.assertEqual((len(rules), rules.about("way")), (2, [0, 1]))

    def test_bad_rules(self):
        for thing in (None, "", {}, 1, True, Rules([]), (("p",), []), "ab"):
            with self.assertRaises(BadRule) as caught:
                Rules(thing)
            self.assertEqual(caught.exception.index, 0)
        for thing in odd_objects() + [("p",), (("p",), [("q",)], 1), (("not", ("p",)), [])]:
            with self.assertRaises(BadRule) as caught:
                Rules([(("p", "X"), []), (("p",), []), thing])
            self.assertEqual(caught.exception.index, 2, thing)

    def test_uneven(self):
        with self.assertRaises(Uneven) as caught:
            Rules([(("p", "X"), []), (("q",), [("r", 1), ("not", ("q", 1)), ("p",)])])
        self.assertEqual((caught.exception.index, caught.exception.relation), (1, "q"))
        with self.assertRaises(Uneven) as caught:
            Rules([(("p",), [("p", "a")])])
        self.assertEqual((caught.exception.index, caught.exception.relation), (0, "p"))
        with self.assertRaises(Uneven) as caught:
            Rules([(("p",), [("q", "a")]), (("r",), []), (("q", 1), [("r", 1)]), (("p", 1), [])])
        self.assertEqual((caught.exception.index, caught.exception.relation), (2, "r"))

    def test_unsafe(self):
        for rule, letter in (
                ((("p", "X", "Y"), [("q", "Y")]), "X"),
                ((("p", "Y"), [("q", "Y"), ("unlike", "B", "A"), ("not", ("q", "C"))]), "B"),
                ((("p", "Y"), [("not", ("q", "C")), ("q", "Y"), ("unlike", "B", "A")]), "C"),
                ((("p", "Z"), [("unlike", "Y", 1), ("not", ("q", "Z"))]), "Z")):
            with self.assertRaises(Unsafe) as caught:
                Rules([(("s",), []), rule, (("s", "X"), [])][:2])
            self.assertEqual((caught.exception.index, caught.exception.letter), (1, letter))

    def test_the_order_of_errors(self):
        self.assertRaises(BadRule, Rules, [(("p", "X"), []), (("p",), []), 1])
        self.assertRaises(Uneven, Rules, [(("p", "X"), []), (("p",), [])])

    def test_it_never_changes(self):
        head = ["p", "a"]
        rows = [[head, []]]
        rules = Rules(rows)
        head[1] = "b"
        rows.append(1)
        rules.listed().append(1)
        rules.made().append(1)
        rules.given().append(1)
        rules.about("p").append(1)
        self.assertEqual(rules.listed(), [(("p", "a"), ())])
        self.assertEqual((rules.made(), rules.given(), rules.about("p")), (["p"], [], [0]))


class Asking(unittest.TestCase):
    def test_the_example(self):
        rules = Rules(WAY)
        self.assertEqual((rules.made(), rules.given(), rings(rules)), (["way"], ["edge"], [["way"]]))

    def test_made_and_given(self):
        rules = rules_of("z if b, not a", "c if z, unlike 1 2", "a10 if d")
        self.assertEqual(rules.made(), ["a10", "c", "z"])
        self.assertEqual(rules.given(), ["a", "b", "d"])

    def test_about(self):
        rules = rules_of("p if q", "q", "p")
        self.assertEqual(rules.about("p"), [0, 2])
        self.assertEqual(rules.about(relation="z"), [])
        for thing in odd_objects() + [["p"], 0]:
            self.assertEqual(rules.about(thing), [])

    def test_without(self):
        rules = rules_of("p", "q", "r")
        self.assertEqual(rules.without(1).listed(), [(("p",), ()), (("r",), ())])
        self.assertEqual(rules.without(number=0).listed(), [(("q",), ()), (("r",), ())])
        self.assertEqual(len(rules), 3)
        for thing in odd_objects() + [-1, 3, "1", [0]]:
            with self.assertRaises(NoRule) as caught:
                rules.without(thing)
            self.assertIs(caught.exception.number, thing)

    def test_together(self):
        one = rules_of("p", "q a")
        self.assertEqual((one | rules_of("p")).listed(), [(("p",), ()), (("q", "a"), ()), (("p",), ())])
        with self.assertRaises(Uneven) as caught:
            one | rules_of("r", "p if q")
        self.assertEqual((caught.exception.index, caught.exception.relation), (3, "q"))

    def test_equal(self):
        self.assertTrue(rules_of("p", "q") == Rules([[["p"], []], (("q",), ())]))
        self.assertFalse(rules_of("p", "q") == rules_of("q", "p"))
        self.assertTrue(rules_of("p") != rules_of("p", "p"))
        self.assertTrue(rules_of("p X if q X") != rules_of("p Y if q Y"))
        for thing in ([(("p",), ())], None, 0, "p"):
            self.assertFalse(rules_of("p") == thing)
            self.assertTrue(rules_of("p") != thing)

    def test_len(self):
        self.assertEqual((len(Rules([])), len(Rules(WAY))), (0, 2))


def slow_hanging(rules):
    """The pairs (relation, other) that hang, told again and again till nothing is new."""
    found = set()
    for head, body in rules.listed():
        for part in body:
            if part[0] != "unlike":
                found.add((head[0], part[1][0] if part[0] == "not" else part[0]))
    while True:
        more = found | {(one, last) for one, other in found for first, last in found if other == first}
        if more == found:
            return found
        found = more


class Hanging(unittest.TestCase):
    def test_hangs_on(self):
        rules = rules_of("a if b, not c", "b if d, unlike 1 2", "c if c", "x")
        self.assertEqual(hangs_on(rules, "a"), ["b", "c", "d"])
        self.assertEqual(hangs_on(rules=rules, relation="c"), ["c"])
        self.assertEqual((hangs_on(rules, "x"), hangs_on(rules, "d"), hangs_on(rules, "zz")), ([], [], []))
        for thing in odd_objects() + [["a"], 1]:
            self.assertEqual(hangs_on(rules, thing), [])
            self.assertIs(is_in_ring(rules, thing), False)

    def test_is_in_ring(self):
        rules = rules_of("a if b", "b if not a, c", "c if d", "d if d")
        self.assertEqual([is_in_ring(rules, relation) for relation in "abcde"], [True, True, False, True, False])
        self.assertIs(is_in_ring(rules=rules, relation="a"), True)

    def test_the_order_of_rings(self):
        rules = rules_of("z if y", "y if z", "a if m, z", "m if a", "b if b", "k if not k, b", "c if z")
        self.assertEqual(rings(rules), [["b"], ["k"], ["y", "z"], ["a", "m"]])
        self.assertEqual(rings(rules_of("p if q", "q")), [])
        self.assertEqual(rings(Rules([])), [])
        rings(rules)[0].append("x")
        self.assertEqual(rings(rules)[0], ["b"])

    def test_against_the_words(self):
        for seed in range(150):
            dice = Dice(seed)
            names = {name: 0 for name in "abcdef"}
            rules = Rules([dice.rule(2, names, names, "X", [1], ("not", "unlike")) for _ in range(seed % 8)])
            pairs = slow_hanging(rules)
            for relation in "abcdefg":
                hung = sorted([other for one, other in pairs if one == relation])
                self.assertEqual(hangs_on(rules, relation), hung)
                self.assertIs(is_in_ring(rules, relation), (relation, relation) in pairs)
            left = {tuple(sorted([other for other in "abcdef" if (one, other) in pairs and (other, one) in pairs]))
                    for one in "abcdef" if (one, one) in pairs}
            told = []
            while left:
                free = [ring for ring in left if not any(
                    [(ring[0], other[0]) in pairs for other in left if other != ring])]
                told.append(min(free))
                left.remove(min(free))
            self.assertEqual(rings(rules), [list(ring) for ring in told])


if __name__ == "__main__":
    unittest.main()
