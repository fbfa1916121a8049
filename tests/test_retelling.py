"""Points [90], [91]: good rows of views, and words that come of none."""

import unittest
from itertools import product

from rulehouse.errors import BadViews, NotPlain, NoWay
from rulehouse.retelling import not_retold, retold
from rulehouse.rules import Rules
from tests.odd import kinds_of, odd_objects, rules_of
from tests.test_programs import NOTS, ROUGH
from tests.test_ways import drawn, ranked, slow_words, told_by

RULES = rules_of("v X Y if a X Y", "u X Z if a X Y, b Y Z", "w X Z if a X Y, w Y Z", "w X V if a X Y, b Y Z, w Z V", "w X Y if a X Y")
MOST = 9


def slow_good(rules, relation, row, most):
    """Whether a row of views is good, as far as words up to so many signs tell."""
    words = slow_words(rules, relation, most)
    for parts in product(*[slow_words(rules, view, most - len(row) + 1) for view in row]):
        word = tuple([sign for part in parts for sign in part])
        if len(word) <= most and word not in words:
            return False
    return True


def finite(rules):
    """The rules of v and x without those that go on for ever, so that their words are few and short."""
    return [(head, body) for head, body in rules if head[0] == "w" or body[-1][0] not in "vwx"]


class Retold(unittest.TestCase):
    def test_retold(self):
        self.assertEqual(retold(RULES, "w", ["v", "u"]), [(False, {"u": 0, "v": 1}), (True, {"u": 0, "v": 1})])
        self.assertEqual(retold(rules=RULES, relation="w", views=("v",)), [(False, {"v": 1}), (True, {"v": 1})])
        self.assertEqual(retold(RULES, "w", ["u"]), [])
        self.assertEqual(not_retold(RULES, "w", ["v"]), ("a", "b", "a"))
        self.assertIsNone(not_retold(rules=RULES, relation="w", views=["u", "v"]))
        self.assertEqual(not_retold(RULES, "w", ["u"]), ("a",))
        self.assertEqual(retold(RULES, "w", ["w"]), [(False, {"w": 1}), (True, {"w": 1})])
        self.assertEqual(retold(RULES, "v", ["v"]), [(False, {"v": 1}), (True, {})])
        self.assertEqual(kinds_of(retold(RULES, "w", ["u", "v"])), kinds_of([(False, {"u": 0, "v": 1}), (True, {"u": 0, "v": 1})]))
        self.assertEqual(kinds_of(not_retold(RULES, "w", ["v"])), kinds_of(("a", "b", "a")))

    def test_words_of_rows_that_are_not_good(self):
        rules = rules_of("v X Y if a X Y", "v X Y if b X Y", "w X Y if a X Y", "w X Z if a X Y, v Y Z", "w X Z if b X Y, v Y Z")
        self.assertEqual(retold(rules, "w", ["v"]), [(False, {"v": 1}), (False, {"v": 2}), (True, {})])
        self.assertEqual(not_retold(rules, "w", ["v"]), ("a",))
        ends = rules_of("u X Z if a X Y, b Y Z", "w X Z if a X Y, b Y Z", "w X Y if b X Y")
        self.assertEqual(not_retold(ends, "w", ["u"]), ("b",))
        twice = rules_of("u X Z if a X Y, b Y Z", "w X V if a X Y, b Y Z, a Z V", "w X V if a X Y, b Y Z, u Z V")
        self.assertEqual(retold(twice, "w", ["u"]), [(False, {"u": 1}), (False, {"u": 2}), (True, {})])
        self.assertEqual(not_retold(twice, "w", ["u"]), ("a", "b", "a"))

    def test_views_without_words(self):
        rules = rules_of("n X Y if n X Y", "v X Y if a X Y", "w X Y if b X Y")
        # No row of signs comes of a row with such a view, so it is good.
        self.assertEqual(retold(rules, "w", ["n", "v"]), [(False, {"n": 1, "v": 0}), (True, {"n": 1, "v": 1})])
        self.assertEqual(not_retold(rules, "w", ["n", "v"]), ("b",))
        self.assertEqual(retold(rules, "zz", ["v"]), [])
        self.assertEqual(retold(rules, "zz", ["n"]), [(False, {"n": 1}), (True, {"n": 1})])
        self.assertEqual(retold(rules, None, ["v"]), [])
        for relation in odd_objects() + ["zz", "n", "a"]:
            self.assertIsNone(not_retold(rules, relation, ["v"]))

    def test_errors(self):
        for call in (retold, not_retold):
            for rules in (ROUGH, NOTS):
                with self.assertRaises(NotPlain) as caught:
                    call(rules, "w", None)
                self.assertEqual(caught.exception.index, 1)
            with self.assertRaises(NoWay) as caught:
                call(rules_of("v X Y if a X Y", "w X Y if a Y X"), "w", None)
            self.assertEqual(caught.exception.index, 1)
            for thing in odd_objects() + [[], (), "v", {"v": 1}]:
                if not isinstance(thing, (list, tuple)) or len(thing) == 0:
                    with self.assertRaises(BadViews) as caught:
                        call(RULES, "w", thing)
                    self.assertEqual(caught.exception.index, 0)
                with self.assertRaises(BadViews) as caught:
                    call(RULES, "w", ["v", "u", thing, thing]) if thing != "v" else call(RULES, "w", ["u", "w", "u", None])
                self.assertEqual(caught.exception.index, 2)
            for views, index in ((["v", "v"], 1), (["a"], 0), (("u", "zz"), 1), (["v", "u", "w", "u", None], 3)):
                with self.assertRaises(BadViews) as caught:
                    call(RULES, "w", views)
                self.assertEqual(caught.exception.index, index)

    def test_against_the_words(self):
        counts = [0, 0, 0]
        for seed in range(500):
            rules = finite(drawn(seed, "ef"))
            heads = {head[0] for head, body in rules}
            if "w" not in heads or any([atom[0] in heads for head, body in rules for atom in body[:-1]]):
                continue
            views = [view for view in ("v", "x", "w") if view in heads][:2]
            machine = retold(Rules(rules), "w", views)
            rows = [row for many in range(1, 4) for row in product(views, repeat=many)]
            good = [row for row in rows if slow_good(rules, "w", row, MOST)]
            for row in rows:
                if told_by(machine, row):
                    self.assertIn(row, good)
                elif "w" not in row:
                    self.assertNotIn(row, good, (rules, views, row))
            self.assertFalse(machine and machine[0][0])
            counts[0] += len(machine) > 1
            told = not_retold(Rules(rules), "w", views)
            # Words that come of rows of up to so many views are all words up to so many signs that come of rows at all.
            longer = [row for many in range(1, 6) for row in product(views, repeat=many) if told_by(machine, row)]
            come = {tuple([sign for part in parts for sign in part]) for row in longer
                    for parts in product(*[slow_words(rules, view, 5) for view in row])}
            left = ranked([word for word in slow_words(rules, "w", 5) if word not in come])
            if told is None or len(told) > 5:
                self.assertEqual(left, [])
            else:
                self.assertEqual(told, left[0])
            counts[1 if told is None else 2] += 1
        self.assertTrue(min(counts) > 20, counts)


class Limits(unittest.TestCase):
    def test_eight_rules(self):
        rules = rules_of("u X Z if a X Y, b Y Z", "u X Y if c X Y", "v X Z if d X Y, v Y Z", "v X Y if e X Y", "w X V if a X Y, b Y Z, w Z V",
                         "w X Z if c X Y, w Y Z", "w X Z if d X Y, w Y Z", "w X Y if e X Y")
        self.assertEqual(retold(rules, "w", ["u", "v", "w"]), [(False, {"u": 0, "v": 1, "w": 1}), (True, {})])
        self.assertIsNone(not_retold(rules, "w", ["w", "u"]))
        self.assertEqual(not_retold(rules, "w", ["u", "v"]), ("d", "c", "e"))


if __name__ == "__main__":
    unittest.main()
