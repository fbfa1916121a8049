"""Points [19] to [22]: texts, and what is read from them."""

import unittest

from rulehouse.errors import BadLine, BadText, NoText, Uneven, Unsafe
from rulehouse.facts import Facts
from rulehouse.rules import Rules
from rulehouse.texts import body_in, fact_in, line_of, read_facts, read_rules, rule_in, write_facts, write_rules
from tests.brute import Dice
from tests.odd import kinds_of, odd_objects

WAY = "way X Z if edge X Y, way Y Z, not shut Y, unlike X Z"
BAD_ROWS = ["", " ", "p ", " p", "p  a", "p\ta", "p a\n", "\np", "P", "1", "-", "p -", "p -0", "p 00", "p 01", "p +1", "p 1a",
            "p --1", "p 1.0", "p A0", "p A01", "p A1000", "p a_b", "not", "if", "unlike", "p if", "p not", "p unlike",
            "p abcdefghijklm", "p 1234567890123456789", "p -1234567890123456789", "p a b c d e f g", "p a,b", "p, q",
            "p \u0661", "p \u00e9", "p None", "p True", "p ()", "(p)", "p a\r", "p a\u2028"]
BAD_RULES = ["p if", "p if ", "p if  q", " if q", "if q", "p if q,", "p if q, ", "p if q,r", "p if q , r", "p if , q",
             "p if q,  r", "p if q if r", "p if if", "p  if q", "p if not", "p if not ", "p if not not q", "p if not unlike 1 2",
             "p if unlike 1", "p if unlike 1 2 3", "p if unlike", "not p", "not p if q", "unlike 1 2", "p, q", "p if q; r",
             "p if q\n", "p if not  q", "p if unlike  1 2", "p IF q", "p if Q"]


class Lines(unittest.TestCase):
    def test_line_of(self):
        self.assertEqual(line_of(("edge", "a", -3)), "edge a -3")
        self.assertEqual(line_of(["edge", "A10", 0]), "edge A10 0")
        self.assertEqual(line_of(thing=("p",)), "p")
        self.assertEqual(line_of((("p", "X"), [])), "p X")
        self.assertEqual(line_of(rule_in(WAY)), WAY)
        self.assertEqual(line_of(rule_in(WAY)[1]), "edge X Y, way Y Z, not shut Y, unlike X Z")
        self.assertEqual(line_of([("p",)]), "p")
        self.assertEqual((line_of([]), line_of(())), ("", ""))
        self.assertEqual(line_of(((("p",)), ())), "p")

    def test_no_text(self):
        for thing in odd_objects() + [("not", ("p",)), ["unlike", 1, 2], Facts([("p",)]), 5, "p"]:
            with self.assertRaises(NoText) as caught:
                line_of(thing)
            self.assertIs(caught.exception.thing, thing)

    def test_read_one(self):
        self.assertEqual(fact_in("edge a -3"), ("edge", "a", -3))
        self.assertEqual(fact_in(line="p"), ("p",))
        self.assertEqual(fact_in("p 123456789012345678 -123456789012345678"), ("p", 123456789012345678, -123456789012345678))
        self.assertEqual(rule_in(line=WAY), (("way", "X", "Z"), (
            ("edge", "X", "Y"), ("way", "Y", "Z"), ("not", ("shut", "Y")), ("unlike", "X", "Z"))))
        self.assertEqual(rule_in("p X"), (("p", "X"), ()))
        self.assertEqual(rule_in("p X if not q Y"), (("p", "X"), (("not", ("q", "Y")),)))
        self.assertEqual(body_in(line="p X, unlike 1 a"), [("p", "X"), ("unlike", 1, "a")])
        self.assertEqual(body_in(""), [])
        self.assertEqual(kinds_of(body_in("not p 1")), kinds_of([("not", ("p", 1))]))
        self.assertEqual(kinds_of(rule_in("p if not p 1")), kinds_of((("p",), (("not", ("p", 1)),))))
        self.assertEqual(kinds_of(fact_in("p a")), kinds_of(("p", "a")))

    def test_bad_texts(self):
        odd = [thing for thing in odd_objects() if not isinstance(thing, str)]
        for line in BAD_ROWS + BAD_RULES + ["p X", "p if q"] + odd + [("p",), 1]:
            with self.assertRaises(BadText) as caught:
                fact_in(line)
            self.assertIs(caught.exception.line, line)
        for line in BAD_ROWS + BAD_RULES + odd + [rule_in(WAY)]:
            with self.assertRaises(BadText) as caught:
                rule_in(line)
            self.assertIs(caught.exception.line, line)
        for line in [row for row in BAD_ROWS if row not in ("", "p, q")] + ["p if q"] + odd + [[], [("p",)]]:
            with self.assertRaises(BadText) as caught:
                body_in(line)
            self.assertIs(caught.exception.line, line)

    def test_each_is_read_as_it_was_told(self):
        for seed in range(200):
            dice = Dice(seed)
            relations = {"p": 0, "q1": 3, "abc": 1}
            body = dice.body(4, relations, ["X", "Y", "A10", "Z999"], ["a", -5, 0, "z9"], ("not", "unlike"))
            head = dice.atom(relations, ["Q"], ["c", 7])
            fact = dice.fact(relations, ["a", -5])
            self.assertEqual(body_in(line_of(body)), body)
            self.assertEqual(rule_in(line_of((head, body))), (head, tuple(body)))
            self.assertEqual(fact_in(line_of(fact)), fact)


class FactTexts(unittest.TestCase):
    def test_write_and_read(self):
        facts = Facts([("q",), ("p", "b"), ("p", -2), ("p", 10), ("p", "a", "a")])
        text = "p -2\np 10\np b\np a a\nq\n"
        self.assertEqual(write_facts(facts), text)
        self.assertEqual(read_facts(text), facts)
        self.assertEqual(read_facts(text="q\np b\nq\np a a\np 10\np -2\n"), facts)
        self.assertEqual(write_facts(facts=Facts([])), "")
        self.assertEqual(read_facts(""), Facts([]))

    def test_bad_lines(self):
        for row in [row for row in BAD_ROWS if "\n" not in row] + ["p X", "p if q"]:
            with self.assertRaises(BadLine) as caught:
                read_facts("p\np 1\n" + row + "\nX\n")
            self.assertEqual(caught.exception.index, 2, row)

    def test_the_last_line_feed(self):
        for text, index in (("p", 0), ("p\nq", 1), ("\n", 0), ("p\n\n", 1), ("p\nX\nq", 1), ("p\nX", 1), ("p\n ", 1)):
            with self.assertRaises(BadLine) as caught:
                read_facts(text)
            self.assertEqual(caught.exception.index, index, text)
            with self.assertRaises(BadLine) as caught:
                read_rules(text)
            self.assertEqual(caught.exception.index, index, text)

    def test_no_strings(self):
        for thing in [None, 1, True, [], ["p"], {}, Facts([]), b"p\n"]:
            for reader in (read_facts, read_rules):
                with self.assertRaises(BadLine) as caught:
                    reader(thing)
                self.assertEqual(caught.exception.index, 0)


class RuleTexts(unittest.TestCase):
    def test_write_and_read(self):
        text = "way X Y if edge X Y\n" + WAY + "\np\nq -1 if p, not p\np\n"
        rules = read_rules(text)
        self.assertEqual(write_rules(rules), text)
        self.assertEqual(len(rules), 5)
        self.assertEqual(read_rules(text=write_rules(rules=rules)), rules)
        self.assertEqual((read_rules(""), write_rules(Rules([]))), (Rules([]), ""))

    def test_bad_lines(self):
        for row in [row for row in BAD_ROWS + BAD_RULES if "\n" not in row]:
            with self.assertRaises(BadLine) as caught:
                read_rules("p X\np\n" + row + "\nX\n")
            self.assertEqual(caught.exception.index, 2, row)

    def test_uneven_then_unsafe(self):
        with self.assertRaises(Uneven) as caught:
            read_rules("p X\nq if p\n")
        self.assertEqual((caught.exception.index, caught.exception.relation), (1, "p"))
        with self.assertRaises(Unsafe) as caught:
            read_rules("p 1\np X if unlike Y X\n")
        self.assertEqual((caught.exception.index, caught.exception.letter), (1, "X"))


class Limits(unittest.TestCase):
    def test_long_texts(self):
        text = "".join([f"edge {n} {n + 1}\n" for n in range(-150, 150)])
        self.assertEqual((len(read_facts(text)), len(read_facts(text + "edge 0 1\n" * 100))), (300, 300))
        self.assertEqual(read_facts(write_facts(read_facts(text))), read_facts(text))
        row = "p A B C D E F if q A B C D E F, r, not s A, not s B, unlike A B, unlike C 1, q F E D C B A, t"
        rules = read_rules((row + "\n") * 20)
        self.assertEqual((len(rules), write_rules(rules)), (20, (row + "\n") * 20))
        with self.assertRaises(BadLine) as caught:
            read_rules((row + "\n") * 399 + "p if\n")
        self.assertEqual(caught.exception.index, 399)


if __name__ == "__main__":
    unittest.main()
