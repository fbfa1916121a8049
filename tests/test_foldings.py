"""Points [28], [29], [30]: foldings, and least parts of questions."""

import unittest
from itertools import product

from rulehouse.errors import BadBody, BadQuestion, NotPlain
from rulehouse.facts import Facts
from rulehouse.foldings import foldings, is_folding, least_part
from rulehouse.matching import answers_of
from tests import brute
from tests.brute import Dice
from tests.odd import facts_of, kinds_of, odd_objects


def slow_foldings(one, other):
    letters = brute.letters_in(one)
    terms = sorted({term for atom in other for term in atom[1:]}, key=brute.term_rank)
    found = []
    for row in product(terms, repeat=len(letters)):
        calls = dict(zip(letters, row))
        if all([brute.put(atom, calls) in other for atom in one]):
            found.append(calls)
    return found


class Foldings(unittest.TestCase):
    def test_in_their_order(self):
        other = [("e", "A10", 1), ("e", "A2", 1), ("e", "b", 1), ("e", -1, "A"), ("e", "B", "A")]
        self.assertEqual([calls["X"] for calls in foldings([("e", "X", "Y")], other)], [-1, "b", "A2", "A10", "B"])
        self.assertEqual(foldings(one=(["e", "X", 1],), other=other), [{"X": "b"}, {"X": "A2"}, {"X": "A10"}])

    def test_edges(self):
        self.assertEqual(foldings([], [("p",)]), [{}])
        self.assertEqual(foldings([], []), [{}])
        self.assertEqual(foldings([("p",)], []), [])
        self.assertEqual(foldings([("p", "X")], [("p", "X"), ("p", "X")]), [{"X": "X"}])
        self.assertEqual(foldings([("p", "X")], [("p", "X", "X")]), [])
        self.assertEqual(foldings([("p", 1)], [("p", "X")]), [])
        self.assertEqual(foldings([("p", "X", "X")], [("p", "X", "Y")]), [])
        self.assertEqual(foldings([("p", "X", "Y")], [("p", "Y", "X")]), [{"X": "Y", "Y": "X"}])

    def test_each_is_new(self):
        body = [["p", "X"]]
        told = foldings(body, body)
        told[0]["X"] = 1
        told.append(1)
        self.assertEqual(foldings(body, body), [{"X": "X"}])
        self.assertEqual(body, [["p", "X"]])

    def test_is_folding(self):
        one, other = [("p", "X", "Y")], [("p", "A", 1), ("p", 1, "X")]
        self.assertIs(is_folding(one, other, {"Y": 1, "X": "A"}), True)
        self.assertIs(is_folding(one=one, other=other, thing={"X": 1, "Y": "X"}), True)
        for thing in odd_objects() + [{"X": "A"}, {"X": "A", "Y": True}, {"X": "A", "Y": 1, "Z": 1}, {"X": "A", "Y": [1]},
                                      {"X": "A", 1: 1}, [("X", "A"), ("Y", 1)], {"X": 1, "Y": 1}]:
            self.assertIs(is_folding(one, other, thing), False, thing)
        self.assertIs(is_folding([], other, {}), True)

    def test_errors(self):
        for call in (foldings, lambda one, other: is_folding(one, other, None)):
            for one, other, error, index in (
                    (None, None, BadBody, 0), ([("p",), 1], [2], BadBody, 1), ([("p",), ("unlike", 1, 2)], [2], NotPlain, 1),
                    ([("p",)], [("p",), 2], BadBody, 1), ([], [("p",), ("q",), ("not", ("p",))], NotPlain, 2),
                    ([], "", BadBody, 0), ([("not", ("p",)), 1], [], BadBody, 1)):
                with self.assertRaises(error) as caught:
                    call(one, other)
                self.assertEqual(caught.exception.index, index)

    def test_against_the_words(self):
        for seed in range(300):
            dice = Dice(seed)
            relations = {"p": 1, "q": 2, "s": 0}
            one = dice.body(4, relations, "XYZ", ["a", 1], ())
            other = dice.body(5, relations, "ZXA", ["a", 1], ())
            slow = slow_foldings(one, other)
            self.assertEqual(foldings(one, other), slow)
            self.assertTrue(all([is_folding(one, other, calls) for calls in slow]))


def slow_least_part(question):
    head, body = question

    def hold(left):
        return any([all([calls[letter] == letter for letter in brute.letters_in([head])])
                    for calls in slow_foldings(body, left)])

    left = list(body)
    for index in range(len(body) - 1, -1, -1):
        if hold(left[:index] + left[index + 1:]):
            left.pop(index)
    return (head, tuple(left))


class LeastParts(unittest.TestCase):
    def test_ordinary(self):
        self.assertEqual(least_part((("p", "X"), [("e", "X", "Y"), ("e", "X", "Z"), ("e", "Z", "W")])),
                         (("p", "X"), (("e", "X", "Z"), ("e", "Z", "W"))))
        self.assertEqual(least_part(question=[["p"], [["e", "X", "Y"], ["e", "Y", "Y"]]]), (("p",), (("e", "Y", "Y"),)))
        self.assertEqual(least_part((("p", "X", "Y"), [("e", "X", "Y"), ("e", "X", "X")])),
                         (("p", "X", "Y"), (("e", "X", "Y"), ("e", "X", "X"))))

    def test_edges(self):
        self.assertEqual(least_part((("p",), [])), (("p",), ()))
        self.assertEqual(least_part((("p",), [("q",), ("q",), ("q",)])), (("p",), (("q",),)))
        self.assertEqual(least_part((("p", "X"), [("q", "X"), ("q", "Y")])), (("p", "X"), (("q", "X"),)))
        self.assertEqual(least_part((("p",), [("q", "X"), ("q", "Y")])), (("p",), (("q", "X"),)))
        self.assertEqual(least_part((("p",), [("q", 1), ("q", "Y")])), (("p",), (("q", 1),)))
        self.assertEqual(kinds_of(least_part([["p"], [["q"]]])), kinds_of((("p",), (("q",),))))

    def test_errors(self):
        for thing in odd_objects() + [(("p", "X"), []), ("p",), [], (("p",), [("unlike", "X", 1)])]:
            with self.assertRaises(BadQuestion) as caught:
                least_part(thing)
            self.assertIs(caught.exception.thing, thing)
        for part in (("not", ("q", "X")), ("unlike", "X", 1)):
            with self.assertRaises(NotPlain) as caught:
                least_part((("p",), [("q", "X"), part, ("not", ("q", "X"))]))
            self.assertEqual(caught.exception.index, 1)

    def test_against_the_words(self):
        relations = {"p": 1, "q": 2}
        for seed in range(300):
            dice = Dice(seed)
            question = dice.rule(5, {"h": 1}, relations, "XYZW", ["a", 1], ())
            told = least_part(question)
            self.assertEqual(told, slow_least_part(question))
            facts = Facts(dice.facts(8, relations, ["a", "b", 1]))
            self.assertEqual(answers_of(facts, told), answers_of(facts, question))


class Limits(unittest.TestCase):
    def test_two_thousand_foldings(self):
        one = [("e", "A", "B"), ("e", "A", "C"), ("e", "A", "D")]
        other = [("e", "X", f"Y{n}") for n in range(1, 13)]
        self.assertEqual(len(foldings(one, other)), 12 ** 3)


if __name__ == "__main__":
    unittest.main()
