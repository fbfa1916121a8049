"""Points [3], [7], [13]: sets of facts."""

import unittest

from rulehouse.errors import BadFact
from rulehouse.facts import Facts
from tests.odd import kinds_of, odd_objects

ROWS = [("q",), ("p", "b"), ("p", 2), ("p", -10), ("p", "a", 1), ("p", "a", "a"), ["p", "b"], ("a10", "z"), ("a2", "z")]
ORDERED = [("a10", "z"), ("a2", "z"), ("p", -10), ("p", 2), ("p", "b"), ("p", "a", 1), ("p", "a", "a"), ("q",)]


class Making(unittest.TestCase):
    def test_listed_in_the_order_each_once(self):
        self.assertEqual(Facts(ROWS).listed(), ORDERED)
        self.assertEqual(Facts(facts=tuple(ROWS)).listed(), ORDERED)
        self.assertEqual(Facts([]).listed(), [])
        self.assertEqual(kinds_of(Facts([["p", "b"]]).listed()), kinds_of([("p", "b")]))

    def test_bad_facts(self):
        for thing in (None, "", "ab", {}, {("p",): 1}, 1, True, Facts([("p",)]), ("p",)):
            with self.assertRaises(BadFact) as caught:
                Facts(thing)
            self.assertEqual(caught.exception.index, 0, thing)
        for thing in odd_objects() + [("p", "X"), ("not", ("p",)), ()]:
            with self.assertRaises(BadFact) as caught:
                Facts([("p",), ["p"], thing, 1])
            self.assertEqual(caught.exception.index, 2, thing)

    def test_it_never_changes(self):
        row = ["p", "a"]
        rows = [row]
        facts = Facts(rows)
        row[1] = "b"
        rows.append(("q",))
        listed = facts.listed()
        listed.append(("r",))
        facts.relations().append(1)
        facts.things().append(1)
        facts.of("p", 1).append(1)
        self.assertEqual(facts.listed(), [("p", "a")])
        self.assertEqual(facts.relations(), [("p", 1)])
        self.assertEqual(facts.things(), ["a"])
        self.assertEqual(facts.of("p", 1), [("p", "a")])
        self.assertEqual(rows, [["p", "b"], ("q",)])


class Asking(unittest.TestCase):
    def test_of(self):
        facts = Facts(ROWS)
        self.assertEqual(facts.of("p", 1), [("p", -10), ("p", 2), ("p", "b")])
        self.assertEqual(facts.of(relation="p", many=2), [("p", "a", 1), ("p", "a", "a")])
        self.assertEqual(facts.of("q", 0), [("q",)])
        for relation, many in (("p", 3), ("p", 0), ("z", 1), ("p", True), ("q", False), ("p", None), ("p", "1"),
                               (None, 1), (["p"], 1), ({}, 1), (Facts([]), Facts([])), (1, 1), ("p", [1])):
            self.assertEqual(facts.of(relation, many), [], (relation, many))

    def test_things_and_relations(self):
        facts = Facts(ROWS)
        self.assertEqual(facts.things(), [-10, 1, 2, "a", "b", "z"])
        self.assertEqual(facts.relations(), [("a10", 1), ("a2", 1), ("p", 1), ("p", 2), ("q", 0)])
        self.assertEqual((Facts([]).things(), Facts([]).relations()), ([], []))

    def test_in(self):
        facts = Facts(ROWS)
        for thing in ROWS:
            self.assertIs(thing in facts, True)
            self.assertIs(list(thing) in facts, True)
        for thing in odd_objects() + [("p",), ("q", 1), ("p", "X"), ("p", True, 1), ("p", "a", True), [("q",)]]:
            self.assertIs(thing in facts, False, thing)

    def test_len(self):
        self.assertEqual((len(Facts([])), len(Facts(ROWS))), (0, 8))

    def test_two_together(self):
        one = Facts([("p", 1), ("q",)])
        other = Facts([["p", 1], ("r", "a")])
        self.assertEqual((one | other).listed(), [("p", 1), ("q",), ("r", "a")])
        self.assertEqual((one & other).listed(), [("p", 1)])
        self.assertEqual((one - other).listed(), [("q",)])
        self.assertIsInstance(one | other, Facts)
        self.assertIsInstance(one & other, Facts)
        self.assertIsInstance(one - other, Facts)
        self.assertEqual(one.listed(), [("p", 1), ("q",)])

    def test_is_within(self):
        one = Facts([("p", 1)])
        more = Facts([("q",), ("p", 1)])
        self.assertIs(one.is_within(more), True)
        self.assertIs(more.is_within(other=one), False)
        self.assertIs(one.is_within(one), True)
        self.assertIs(Facts([]).is_within(Facts([])), True)

    def test_equal(self):
        self.assertTrue(Facts([("p", 1), ("q",)]) == Facts((["q"], ["p", 1], ["q"])))
        self.assertFalse(Facts([("p", 1)]) == Facts([("p", 2)]))
        self.assertTrue(Facts([("p", 1)]) != Facts([]))
        for thing in [[("p", 1)], (("p", 1),), {("p", 1): True}, None, 1, "p 1"]:
            self.assertFalse(Facts([("p", 1)]) == thing)
            self.assertTrue(Facts([("p", 1)]) != thing)


if __name__ == "__main__":
    unittest.main()
