"""Points [9], [24], [25], and [5]: matches of bodies, and answers to questions."""

import unittest

from rulehouse.errors import BadBody, BadQuestion, Unsafe
from rulehouse.facts import Facts
from rulehouse.matching import answers_of, is_match, many_matches, matches
from rulehouse.rules import Rules
from tests import brute
from tests.brute import Dice
from tests.odd import facts_of, kinds_of, odd_objects

EDGES = facts_of("e a b", "e b c", "e b a", "e 3 a", "e -1 a", "e 10 b", "f b", "f", "e a")


def calls_rank(calls):
    return [brute.term_rank(thing) for thing in calls.values()]


class Matches(unittest.TestCase):
    def test_in_their_order(self):
        told = matches(EDGES, [("e", "X", "Y")])
        self.assertEqual(told, [{"X": -1, "Y": "a"}, {"X": 3, "Y": "a"}, {"X": 10, "Y": "b"}, {"X": "a", "Y": "b"},
                                {"X": "b", "Y": "a"}, {"X": "b", "Y": "c"}])
        self.assertEqual(many_matches(EDGES, [("e", "X", "Y")]), 6)

    def test_letters_in_the_order_of_the_whole_body(self):
        body = [("not", ("f", "Z")), ("unlike", "Y", 3), ("e", "X", "Y"), ("e", "Y", "Z")]
        told = matches(facts=EDGES, body=body)
        self.assertEqual([list(calls) for calls in told], [["Z", "Y", "X"]] * len(told))
        self.assertEqual(told, [{"Z": "a", "Y": "b", "X": 10}, {"Z": "a", "Y": "b", "X": "a"},
                                {"Z": "c", "Y": "b", "X": 10}, {"Z": "c", "Y": "b", "X": "a"}])

    def test_edges(self):
        self.assertEqual(matches(EDGES, []), [{}])
        self.assertEqual(matches(Facts([]), ()), [{}])
        self.assertEqual(matches(EDGES, [("f",)]), [{}])
        self.assertEqual(matches(EDGES, [("g",)]), [])
        self.assertEqual(matches(EDGES, [("not", ("g",))]), [{}])
        self.assertEqual(matches(EDGES, [("not", ("f",))]), [])
        self.assertEqual(matches(EDGES, [("unlike", 1, 1)]), [])
        self.assertEqual(matches(EDGES, [("unlike", 1, "a")]), [{}])
        self.assertEqual(matches(EDGES, [("f", "X"), ("f", "X"), ("e", "X")]), [])
        self.assertEqual(matches(EDGES, [("e", "X")]), [{"X": "a"}])
        self.assertEqual(matches(EDGES, [("f", "X"), ("unlike", "X", "X")]), [])
        self.assertEqual(matches(facts_of("p a a", "p a b"), [("p", "X", "X")]), [{"X": "a"}])
        self.assertEqual((many_matches(EDGES, []), many_matches(facts=EDGES, body=[("g",)])), (1, 0))

    def test_each_is_new(self):
        body = [["e", "X"]]
        told = matches(EDGES, body)
        told[0]["X"] = "q"
        told.append(1)
        self.assertEqual(matches(EDGES, body), [{"X": "a"}])
        self.assertEqual(body, [["e", "X"]])
        self.assertEqual(kinds_of(matches(EDGES, body)), kinds_of([{"X": "a"}]))

    def test_errors(self):
        for call in (matches, many_matches, lambda facts, body: is_match(facts, body, None)):
            for thing in (None, "", {}, True, 1, "ab", Rules([])):
                with self.assertRaises(BadBody) as caught:
                    call(EDGES, thing)
                self.assertEqual(caught.exception.index, 0)
            for thing in odd_objects():
                with self.assertRaises(BadBody) as caught:
                    call(EDGES, [("unlike", "X", "Y"), thing, 1])
                self.assertEqual(caught.exception.index, 1)
            for body, index, letter in (
                    ([("unlike", "B", "A"), ("not", ("p", "C"))], 0, "B"),
                    ([("e", "A", "B"), ("unlike", "B", "C")], 1, "C"),
                    ([("e", "A", "B"), ("unlike", "B", "A"), ("not", ("p", "A", "D", "C"))], 2, "D"),
                    ([("not", ("p", "X")), ("e", "Y", "Y")], 0, "X")):
                with self.assertRaises(Unsafe) as caught:
                    call(EDGES, body)
                self.assertEqual((caught.exception.index, caught.exception.letter), (index, letter))

    def test_is_match(self):
        body = [("e", "X", "Y"), ("not", ("f", "X")), ("unlike", "X", 3)]
        self.assertIs(is_match(EDGES, body, {"X": "a", "Y": "b"}), True)
        self.assertIs(is_match(facts=EDGES, body=body, thing={"Y": "b", "X": 10}), True)
        for thing in odd_objects() + [{"X": "b", "Y": "a"}, {"X": 3, "Y": "a"}, {"X": "a"}, {"X": "a", "Y": "b", "Z": 1},
                                      {"X": "a", "Y": "Y"}, {"X": "a", "Y": ["b"]}, {"X": "a", 1: "b"}, [("X", "a")],
                                      {"x": "a", "Y": "b"}, {"X": Facts([]), "Y": "b"}]:
            self.assertIs(is_match(EDGES, body, thing), False, thing)
        self.assertIs(is_match(EDGES, [], {}), True)
        self.assertIs(is_match(EDGES, [], []), False)
        self.assertIs(is_match(EDGES, [("unlike", 1, 1)], {}), False)
        self.assertIs(is_match(facts_of("p 1"), [("p", "X")], {"X": True}), False)
        self.assertIs(is_match(facts_of("p 0"), [("p", "X")], {"X": False}), False)

    def test_against_the_words(self):
        for seed in range(400):
            dice = Dice(seed)
            relations = {"p": 1, "q": 2, "r": 3, "s": 0}
            facts = dice.facts(dice.random.randint(0, 12), relations, ["a", "b", 1, -1])
            body = dice.body(4, relations, "XYZ", ["a", 1], ("not", "unlike"))
            slow = sorted(brute.matches(set(facts), body), key=calls_rank)
            told = matches(Facts(facts), body)
            self.assertEqual(told, slow)
            self.assertEqual([list(calls) for calls in told], [brute.letters_in(body)] * len(told))
            self.assertEqual(many_matches(Facts(facts), body), len(slow))
            for calls in slow[:3]:
                self.assertTrue(is_match(Facts(facts), body, dict(reversed(list(calls.items())))))
                for letter in calls:
                    other = {**calls, letter: "b"}
                    self.assertIs(is_match(Facts(facts), body, other), other in slow)


class Answers(unittest.TestCase):
    def test_answers_of(self):
        question = [["far", "X", "Z", 0], [["e", "X", "Y"], ["e", "Y", "Z"], ["unlike", "X", "Z"], ["not", ["f", "X"]]]]
        self.assertEqual(answers_of(EDGES, question), facts_of(
            "far -1 b 0", "far 3 b 0", "far 10 a 0", "far 10 c 0", "far a c 0"))
        self.assertEqual(answers_of(facts=EDGES, question=(("p", "X"), [("e", "X")])), facts_of("p a"))
        self.assertEqual(answers_of(EDGES, (("p",), [])), facts_of("p"))
        self.assertEqual(answers_of(EDGES, (("p",), [("g",)])), Facts([]))
        self.assertEqual(answers_of(EDGES, (("e", "X"), [("e", "X", "Y"), ("e", "X")])), facts_of("e a"))

    def test_bad_questions(self):
        for thing in odd_objects() + [(("p", "X"), []), (("p",), [("not", ("q", "X"))]), ("p",), [], (("p",),)]:
            with self.assertRaises(BadQuestion) as caught:
                answers_of(EDGES, thing)
            self.assertIs(caught.exception.thing, thing)


class Limits(unittest.TestCase):
    def test_two_thousand_matches(self):
        facts = Facts([("e", x, y) for x in range(7) for y in range(8)])
        body = [("e", "A", "B"), ("e", "A", "C"), ("e", "A", "D"), ("unlike", "B", "C"), ("unlike", "C", "D")]
        self.assertEqual(len(matches(facts, body)), 7 * 8 * 7 * 7)
        self.assertEqual(many_matches(facts, body[:2]), 7 * 8 * 8)


if __name__ == "__main__":
    unittest.main()
