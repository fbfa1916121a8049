"""Points [16], [17], [18]: plain forms, atoms taken together, rules unfolded."""

import unittest
from itertools import product

from rulehouse.errors import NoAtom, NoPart, NoRule, NoRuleThing
from rulehouse.joins import joined, plain_form, unfolded
from rulehouse.parts import is_rule
from rulehouse.rules import Rules
from rulehouse.texts import rule_in
from tests.brute import Dice, follows, letters_in, put
from tests.odd import kinds_of, odd_objects, rules_of




class PlainForms(unittest.TestCase):
    def test_letters_are_put_in_in_order(self):
        self.assertEqual(plain_form(rule_in("p Z A if q A Y2, not r Y2, unlike Z Q")),
                         rule_in("p A B if q B C, not r C, unlike A D"))
        self.assertEqual(plain_form(rule=[["p"], [["q", "B"]]]), (("p",), (("q", "A"),)))
        self.assertEqual(plain_form((("p", 1), ())), (("p", 1), ()))
        self.assertEqual(plain_form(rule_in("p B A if q A B")), rule_in("p A B if q B A"))

    def test_many_letters(self):
        body = [("p", f"X{n}", f"Y{n}", f"Z{n}", f"A{n}", f"B{n}", f"C{n}") for n in range(1, 6)]
        told = letters_in(plain_form((("q",), body))[1])
        self.assertEqual(told[:3] + told[24:29], ["A", "B", "C", "Y", "Z", "A1", "B1", "C1"])

    def test_kinds(self):
        self.assertEqual(kinds_of(plain_form([["p"], [["not", ["q"]], ["unlike", 1, 2]]])),
                         kinds_of((("p",), (("not", ("q",)), ("unlike", 1, 2)))))

    def test_no_rules(self):
        for thing in odd_objects() + [("p",), [], [("p",)], Rules([])]:
            with self.assertRaises(NoRuleThing) as caught:
                plain_form(thing)
            self.assertIs(caught.exception.thing, thing)


class Joined(unittest.TestCase):
    def test_most_general(self):
        self.assertEqual(joined(("p", "X", "Y"), ("p", "X", "Y")), ({"X": "A", "Y": "B"}, {"X": "A", "Y": "B"}))
        self.assertEqual(joined(("p", "Y", "X"), ("p", "b", "Z")), ({"Y": "b", "X": "A"}, {"Z": "A"}))
        self.assertEqual(joined(("p", "X", "X", "Y"), ("p", "U", "V", "U")),
                         ({"X": "A", "Y": "A"}, {"U": "A", "V": "A"}))
        self.assertEqual(joined(("p", "X", "Y", "Z", "X"), ("p", "U", "U", "W", 3)),
                         ({"X": 3, "Y": 3, "Z": "A"}, {"U": 3, "W": "A"}))
        self.assertEqual(joined(("p",), ["p"]), ({}, {}))
        self.assertEqual(joined(one=["p", "X"], other=("p", "X")), ({"X": "A"}, {"X": "A"}))

    def test_none(self):
        for one, other in ((("p", 1), ("p", 2)), (("p", "X"), ("q", "X")), (("p", "X"), ("p", "X", "Y")),
                           (("p", "X", "X"), ("p", 1, "a")), (("p", "X", "X", 1), ("p", 2, "Y", "Y"))):
            self.assertIsNone(joined(one, other))

    def test_dicts_are_in_order_and_new(self):
        mine, theirs = joined(("p", "Z", "A", "Z"), ("p", "C", "B", "A"))
        self.assertEqual(list(mine), ["Z", "A"])
        self.assertEqual(list(theirs), ["C", "B", "A"])
        mine["Z"] = 1
        self.assertEqual(joined(("p", "Z", "A", "Z"), ("p", "C", "B", "A"))[0], {"Z": "A", "A": "B"})

    def test_no_atoms(self):
        for thing in odd_objects() + [("not", ("p",)), [], ("unlike", 1, 2)]:
            for one, other in ((thing, ("p",)), (("p",), thing), (thing, None)):
                with self.assertRaises(NoAtom) as caught:
                    joined(one, other)
                self.assertIs(caught.exception.thing, thing)

    def test_against_the_facts_that_both_become(self):
        things = ["a", "b", 1, "c"]
        terms = ["X", "Y", "a", 1]
        atoms = [("p",) + row for row in product(terms, repeat=3)]

        def becomes(atom, letters):
            return {put(atom, dict(zip(letters, row))) for row in product(things, repeat=len(letters))}

        every = {atom: becomes(atom, letters_in([atom])) for atom in atoms}
        for one in atoms:
            for other in atoms[::3]:
                both = every[one] & every[other]
                pair = joined(one, other)
                if pair is None:
                    self.assertEqual(both, set())
                    continue
                atom = put(one, pair[0])
                self.assertEqual(atom, put(other, pair[1]))
                self.assertEqual(becomes(atom, letters_in([atom])), both)
                self.assertEqual(letters_in([atom]), ["A", "B", "C"][:len(letters_in([atom]))])
                self.assertEqual((list(pair[0]), list(pair[1])), (letters_in([one]), letters_in([other])))


class Unfolded(unittest.TestCase):
    def test_in_turn(self):
        rules = rules_of("way X Y if edge X Y", "way X Z if edge X Y, way Y Z", "t if way A b, not s A")
        self.assertEqual(unfolded(rules, 1, 1), [
            rule_in("way A B if edge A C, edge C B"), rule_in("way A B if edge A C, edge C D, way D B")])
        self.assertEqual(unfolded(rules=rules, number=2, index=0), [
            rule_in("t if edge A b, not s A"), rule_in("t if edge A B, way B b, not s A")])
        self.assertEqual(unfolded(rules, 1, 0), [])

    def test_letters_are_taken_for_unlike_ones(self):
        rules = rules_of("p X if q X Y, r Y, unlike Y Z, s Z", "q A B if t A B X Y Z", "q a X if r X", "q X b if r X, not s X")
        self.assertEqual(unfolded(rules, 0, 0), [
            rule_in("p A if t A B C D E, r B, unlike B F, s F"), rule_in("p a if r A, r A, unlike A B, s B"),
            rule_in("p A if r A, not s A, r b, unlike b B, s B")])

    def test_heads_that_cannot_be_joined_are_left_out(self):
        rules = rules_of("p X if q X 1", "q X 2 if r X", "q a 1", "q X X if r X")
        self.assertEqual(unfolded(rules, 0, 0), [rule_in("p a"), rule_in("p 1 if r 1")])

    def test_errors(self):
        rules = rules_of("p X if unlike X 1, q X, not r X", "q 1")
        for thing in odd_objects() + [-1, 2, "0", [0]]:
            with self.assertRaises(NoRule) as caught:
                unfolded(rules, thing, None)
            self.assertIs(caught.exception.number, thing)
        for thing in odd_objects() + [-1, 0, 2, 3, "1", [1]]:
            with self.assertRaises(NoPart) as caught:
                unfolded(rules, 0, thing)
            self.assertIs(caught.exception.index, thing)

    def test_kinds(self):
        rules = rules_of("p X if q X", "q 1 if r, not s, unlike a b")
        self.assertEqual(kinds_of(unfolded(rules, 0, 0)), kinds_of([(("p", 1), (("r",), ("not", ("s",)), ("unlike", "a", "b")))]))

    def test_the_same_follows_with_the_unfolded_ones_in_its_place(self):
        for seed in range(120):
            dice = Dice(seed)
            rules, facts = dice.program(4)
            facts = [fact for fact in facts if fact[0] in ("e", "f")]
            for number, (head, body) in enumerate(rules):
                for index, part in enumerate(body):
                    if part[0] == "unlike":
                        continue
                    told = unfolded(Rules(rules), number, index)
                    self.assertTrue(all([is_rule(rule) and plain_form(rule) == rule for rule in told]))
                    if part[0] in ("p", "q", "r"):
                        others = rules[:number] + told + rules[number + 1:]
                        self.assertEqual(follows(others, facts), follows(rules, facts))
                    else:
                        self.assertEqual(told, [])


if __name__ == "__main__":
    unittest.main()
