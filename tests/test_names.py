"""Point [6], and [7] for terms: names, things, letters and terms of any object."""

import unittest

from rulehouse.names import is_letter, is_name, is_term, is_thing, nth_letter, term_key
from tests.odd import odd_objects

NAMES = ["a", "z9", "abcdefghijkl", "a1b2", "nota", "iff", "unlikely", "x0"]
LETTERS = ["A", "Z", "A1", "B10", "C999", "D100"]
INTEGERS = [0, -1, 7, 10 ** 17, -(10 ** 17)]
NEITHER = ["", "abcdefghijklm", "not", "unlike", "if", "1a", "_a", "a_b", "a b", "a\n", "aB", "AB", "A0", "A01", "A1000",
           "A-1", "Aa", "\u00e9", "\u0391", "a\u0661", "A\u0661", "\u0661", "A 1", "A1 "]


class Names(unittest.TestCase):
    def test_each_is_told(self):
        for thing in NAMES:
            self.assertEqual([f(thing) for f in (is_name, is_thing, is_letter, is_term)], [True, True, False, True], thing)
        for thing in LETTERS:
            self.assertEqual([f(thing) for f in (is_name, is_thing, is_letter, is_term)], [False, False, True, True], thing)
        for thing in INTEGERS:
            self.assertEqual([f(thing) for f in (is_name, is_thing, is_letter, is_term)], [False, True, False, True], thing)

    def test_others_are_none(self):
        for thing in NEITHER + odd_objects() + [["a"], ("A",), ["A"], 1.5]:
            for told in (is_name, is_thing, is_letter, is_term):
                self.assertIs(told(thing), False, (told, thing))

    def test_by_name(self):
        self.assertIs(is_name(thing="a"), True)
        self.assertIs(is_thing(thing=1), True)
        self.assertIs(is_letter(thing="A"), True)
        self.assertIs(is_term(thing="A"), True)

    def test_the_order_of_terms(self):
        ordered = [-10, -2, 0, 3, 20, "a", "a1", "a10", "a2", "b", "A", "A1", "A2", "A10", "B", "B3", "Z999"]
        self.assertEqual(sorted(reversed(ordered), key=term_key), ordered)

    def test_letters_in_a_row(self):
        self.assertEqual([nth_letter(number) for number in (0, 1, 25, 26, 51, 52)], ["A", "B", "Z", "A1", "Z1", "A2"])


if __name__ == "__main__":
    unittest.main()
