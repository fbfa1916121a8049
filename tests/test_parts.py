"""Points [8], [11], [12]: atoms, facts, parts, bodies, rules; letters and what is put in for them."""

import unittest

from rulehouse.errors import BadBody, BadCalls
from rulehouse.facts import Facts
from rulehouse.parts import is_atom, is_body, is_fact, is_part, is_rule, letters_of, put_in
from tests.odd import kinds_of, odd_objects

FACTS = [("a",), ("edge", "a", "b"), ("p", -3, 0), ["a", "b"], ["a"], ("p", 1, 2, 3, 4, 5, 6)]
ATOMS = [("edge", "X", "b"), ["p", "A10"], ("p", "X", "X")]
PARTS = [("not", ("a",)), ["not", ["a", "X"]], ("unlike", "X", 1), ["unlike", "a", "a"], ("unlike", "X", "X")]
RULES = [(("a",), []), (("p", "X"), ()), [["p", "X"], [["not", ["q", "Y"]]]], (("p",), [("q",), ("unlike", 1, 2)])]
NO_ROWS = [(), [], ("X",), (1,), ("if", "a"), ("p", 1, 2, 3, 4, 5, 6, 7), ("p", True), ("p", None), ("p", ("a",)),
           ("p", "b c"), "p", {"p": 1}, ("p", "A0"), (("p",),), "ab"]
NO_PARTS = [("not",), ("not", "a"), ("not", ("not", ("a",))), ("not", ("unlike", 1, 2)), ("not", ("a",), ("b",)),
            ("unlike", 1), ("unlike", 1, 2, 3), ("unlike", 1, None), ("unlike", ("a",), 1), ["not", {}]]
NO_RULES = [((("a",)),), (("a",), [("b",)], []), (("not", ("a",)), []), (("a",), ("b",)), (("a",), None), (("a",), ""),
            (("a",), {}), ("a", "b"), ["ab", []], ((), []), (("a",), [()])]


class Kinds(unittest.TestCase):
    def test_facts_and_atoms(self):
        for thing in FACTS:
            self.assertEqual([is_fact(thing), is_atom(thing), is_part(thing)], [True, True, True], thing)
            self.assertEqual([is_body(thing), is_rule(thing)], [False, False], thing)
        for thing in ATOMS:
            self.assertEqual([is_fact(thing), is_atom(thing), is_part(thing)], [False, True, True], thing)

    def test_parts(self):
        for thing in PARTS:
            self.assertEqual([is_fact(thing), is_atom(thing), is_part(thing)], [False, False, True], thing)
        for thing in NO_ROWS + NO_PARTS:
            self.assertIs(is_part(thing), False, thing)
            self.assertIs(is_atom(thing), False, thing)
            self.assertIs(is_fact(thing), False, thing)

    def test_bodies(self):
        for thing in [[], (), [("a",)], ([["a"]]), FACTS, tuple(ATOMS + PARTS), [("a",), ("a",)]]:
            self.assertIs(is_body(thing), True, thing)
        for thing in [None, "", {}, [("a",), 1], ("a",), [[]], Facts([]), {("a",): 1}, [("a",), ("not",)]] + FACTS:
            self.assertIs(is_body(thing), False, thing)

    def test_rules(self):
        for thing in RULES:
            self.assertIs(is_rule(thing), True, thing)
            self.assertIs(is_atom(thing), False, thing)
        for thing in NO_RULES + FACTS + PARTS:
            self.assertIs(is_rule(thing), False, thing)

    def test_odd_objects_are_none(self):
        for thing in odd_objects():
            for told in (is_atom, is_fact, is_part, is_rule, is_body):
                self.assertIs(told(thing), False, (told, thing))

    def test_by_name(self):
        for told in (is_atom, is_fact, is_part):
            self.assertIs(told(thing=("a",)), True)
        self.assertIs(is_body(thing=[]), True)
        self.assertIs(is_rule(thing=(("a",), [])), True)


class Letters(unittest.TestCase):
    def test_in_the_order_in_which_they_first_stand(self):
        body = [("p", "B", 1, "A"), ["not", ["q", "C", "B"]], ("unlike", "D", "A10"), ("r", "A", "E")]
        self.assertEqual(letters_of(body), ["B", "A", "C", "D", "A10", "E"])
        self.assertEqual(letters_of(body=tuple(body)), ["B", "A", "C", "D", "A10", "E"])
        self.assertEqual(letters_of([]), [])
        self.assertEqual(letters_of([("p",), ("unlike", "a", 1)]), [])

    def test_bad_bodies(self):
        for thing in (None, "", "ab", {}, {0: ("p",)}, 1, True, Facts([]), [1], [("not",), 2], [[]]):
            for call in (letters_of, lambda body: put_in(body, None)):
                with self.assertRaises(BadBody) as caught:
                    call(thing)
                self.assertEqual(caught.exception.index, 0, thing)
        with self.assertRaises(BadBody) as caught:
            letters_of([("p",), ("unlike", 1), None])
        self.assertEqual(caught.exception.index, 1)


class PutIn(unittest.TestCase):
    def test_terms_are_put_in_at_once(self):
        body = [("p", "X", "Y"), ["not", ["q", "X"]], ["unlike", "Y", 1]]
        self.assertEqual(put_in(body, {"X": "Y", "Y": "a", "Z": 1}),
                         [("p", "Y", "a"), ("not", ("q", "Y")), ("unlike", "a", 1)])
        self.assertEqual(put_in(body=body, calls={}), [("p", "X", "Y"), ("not", ("q", "X")), ("unlike", "Y", 1)])
        self.assertEqual(put_in([], {"X": 1}), [])
        self.assertEqual(put_in([("p", "X")], {"X": -5}), [("p", -5)])

    def test_kinds_and_copies(self):
        body = [["p", "X"], ["not", ["q", "X"]]]
        calls = {"X": "A1"}
        told = put_in(body, calls)
        self.assertEqual(kinds_of(told), kinds_of([("p", "a"), ("not", ("q", "a"))]))
        self.assertEqual((body, calls), ([["p", "X"], ["not", ["q", "X"]]], {"X": "A1"}))
        told.append(1)
        self.assertEqual(put_in(body, calls), [("p", "A1"), ("not", ("q", "A1"))])

    def test_bad_calls(self):
        body = [("p", "X")]
        for calls, thing in (({"X": 1, "a": 1}, "a"), ({"a": 1, "X": True}, "a"), ({"X": True, "b": 1}, "X"),
                             ({"X": None}, "X"), ({True: "a"}, True), ({("X",): 1}, ("X",)), ({None: 1}, None),
                             ({"Y": 1, "X": ["a"]}, "X"), ({"X": "A0"}, "X"), ({"XY": 1}, "XY"), ({1: 1}, 1)):
            with self.assertRaises(BadCalls) as caught:
                put_in(body, calls)
            self.assertIs(caught.exception.thing, thing)
        for calls in (None, [], [("X", 1)], "X", 3, Facts([])):
            with self.assertRaises(BadCalls) as caught:
                put_in(body, calls)
            self.assertIs(caught.exception.thing, calls)


if __name__ == "__main__":
    unittest.main()
