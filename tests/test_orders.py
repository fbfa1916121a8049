"""Points [26], [27], [30]: orders of joining, and letters summed out."""

import unittest
from itertools import permutations, product

from rulehouse.errors import BadBody, BadLetter, BadOrder, NotPlain
from rulehouse.facts import Facts
from rulehouse.orders import best_order, join_sizes, summed_out
from tests import brute
from tests.brute import Dice
from tests.odd import facts_of, kinds_of, odd_objects

FACTS = facts_of("e a b", "e b c", "e c a", "e b a", "f a", "g")
BODY = [("e", "X", "Y"), ("e", "Y", "Z"), ("f", "Z"), ("f", "W")]
CALLS = (lambda facts, body: join_sizes(facts, body, None), best_order,
         lambda facts, body: summed_out(facts, body, None))


def slow_sizes(facts, body, order):
    return [len(brute.matches(facts, [body[index] for index in order[:many + 1]])) for many in range(len(order))]


class Errors(unittest.TestCase):
    def test_bodies(self):
        for call in CALLS:
            for thing in (None, "", {}, True, 1):
                with self.assertRaises(BadBody) as caught:
                    call(FACTS, thing)
                self.assertEqual(caught.exception.index, 0)
            for thing in odd_objects():
                with self.assertRaises(BadBody) as caught:
                    call(FACTS, [("unlike", 1, 2), thing])
                self.assertEqual(caught.exception.index, 1)
            for part in (("unlike", "X", "X"), ("not", ("e", "X", "X"))):
                with self.assertRaises(NotPlain) as caught:
                    call(FACTS, [("e", "X", "X"), part, ("not", ("p",))])
                self.assertEqual(caught.exception.index, 1)

    def test_orders(self):
        for thing in odd_objects() + [[], [0], [0, 1, 2], [0, 1, 2, 3, 3], [0, 1, 2, 2], [1, 2, 3, 4], [0, 1, 2, -1],
                                      ["0", "1", "2", "3"], [0, True, 2, 3], [False, 1, 2, 3], [0, 1, 2, None],
                                      {0: 0, 1: 1, 2: 2, 3: 3}, range(4)]:
            with self.assertRaises(BadOrder) as caught:
                join_sizes(FACTS, BODY, thing)
            self.assertIs(caught.exception.thing, thing)

    def test_letters(self):
        for thing in (None, "", "X", {}, {"X": 1}, True):
            with self.assertRaises(BadLetter) as caught:
                summed_out(FACTS, BODY, thing)
            self.assertEqual(caught.exception.index, 0)
        for thing in odd_objects() + ["X", "V", "a", 1]:
            with self.assertRaises(BadLetter) as caught:
                summed_out(FACTS, BODY, ["X", "Y", thing, None])
            self.assertEqual(caught.exception.index, 2)
        with self.assertRaises(BadLetter) as caught:
            summed_out(FACTS, [], ["X"])
        self.assertEqual(caught.exception.index, 0)


class LittleByLittle(unittest.TestCase):
    def test_join_sizes(self):
        self.assertEqual(join_sizes(FACTS, BODY, [0, 1, 2, 3]), [4, 5, 2, 2])
        self.assertEqual(join_sizes(facts=FACTS, body=tuple(BODY), order=(3, 2, 1, 0)), [1, 1, 2, 2])
        self.assertEqual(join_sizes(FACTS, [], []), [])
        self.assertEqual(join_sizes(FACTS, [("g",), ("g",)], [1, 0]), [1, 1])
        self.assertEqual(join_sizes(FACTS, [("h",), ("g",)], [0, 1]), [0, 0])

    def test_best_order(self):
        self.assertEqual(best_order(FACTS, BODY), (6, [2, 3, 1, 0]))
        self.assertEqual(best_order(facts=FACTS, body=[]), (0, []))
        self.assertEqual(best_order(FACTS, [("g",), ("g",), ("g",)]), (3, [0, 1, 2]))
        self.assertEqual(kinds_of(best_order(FACTS, BODY)), kinds_of((1, [1, 1, 1, 1])))
        best_order(FACTS, BODY)[1].append(1)
        self.assertEqual(best_order(FACTS, BODY)[1], [2, 3, 1, 0])

    def test_against_the_words(self):
        for seed in range(150):
            dice = Dice(seed)
            relations = {"p": 1, "q": 2, "s": 0}
            facts = dice.facts(dice.random.randint(0, 8), relations, ["a", "b", 1])
            body = dice.body(4, relations, "XYZ", ["a", 1], ())
            every = []
            for order in permutations(range(len(body))):
                sizes = slow_sizes(set(facts), body, order)
                self.assertEqual(join_sizes(Facts(facts), body, list(order)), sizes)
                every.append((sum(sizes), list(order)))
            self.assertEqual(best_order(Facts(facts), body), min(every))


def slow_summed(facts, body, letters):
    """Tables as the document tells them, rows by trying all things."""
    known = brute.letters_in(body)
    things = brute.things_in(facts)
    tables = []
    for atom in body:
        own = [letter for letter in known if letter in brute.letters_in([atom])]
        rows = {}
        for calls in brute.matches(facts, [atom]):
            rows[tuple([calls[letter] for letter in own])] = 1
        tables.append((own, rows))

    def together(taken, without):
        kept = [letter for letter in known if any([letter in own for own, rows in taken]) and letter != without]
        every = kept + ([without] if without else [])
        rows = {}
        for row in product(things, repeat=len(every)):
            calls = dict(zip(every, row))
            many = 1
            for own, told in taken:
                many *= told.get(tuple([calls[letter] for letter in own]), 0)
            if many:
                key = tuple([calls[letter] for letter in kept])
                rows[key] = rows.get(key, 0) + many
        return kept, rows

    sizes = []
    for letter in letters:
        made = together([table for table in tables if letter in table[0]], letter)
        tables = [table for table in tables if letter not in table[0]] + [made]
        sizes.append(len(made[1]))
    return sizes, together(tables, None)[1]


class SummedOut(unittest.TestCase):
    def test_ordinary(self):
        self.assertEqual(summed_out(FACTS, BODY, ["Y", "W"]), ([5, 1], {("a", "a"): 1, ("b", "a"): 1}))
        self.assertEqual(summed_out(facts=FACTS, body=BODY, letters=("W", "Z", "Y", "X")), ([1, 2, 2, 1], {(): 2}))
        self.assertEqual(summed_out(FACTS, [("e", "Y", "X"), ("f", "X")], []), ([], {("b", "a"): 1, ("c", "a"): 1}))
        self.assertEqual(summed_out(FACTS, [("f", "X"), ("e", "Y", "X")], []), ([], {("a", "b"): 1, ("a", "c"): 1}))

    def test_edges(self):
        self.assertEqual(summed_out(FACTS, [], []), ([], {(): 1}))
        self.assertEqual(summed_out(FACTS, [("g",)], []), ([], {(): 1}))
        self.assertEqual(summed_out(FACTS, [("h",)], []), ([], {}))
        self.assertEqual(summed_out(FACTS, [("h", "X"), ("f", "Y")], ["X"]), ([0], {}))
        self.assertEqual(summed_out(FACTS, [("f", "X"), ("f", "X")], ["X"]), ([1], {(): 1}))

    def test_kinds(self):
        told = summed_out(FACTS, BODY, ["Y"])
        self.assertEqual(kinds_of(told[0]), kinds_of([1]))
        self.assertTrue(isinstance(told, tuple) and isinstance(told[1], dict))
        self.assertTrue(all([isinstance(key, tuple) for key in told[1]]))

    def test_against_the_words(self):
        for seed in range(150):
            dice = Dice(seed)
            relations = {"p": 1, "q": 2, "r": 3, "s": 0}
            facts = dice.facts(dice.random.randint(0, 9), relations, ["a", "b", 1])
            body = dice.body(4, relations, "XYZW", ["a", 1], ())
            letters = brute.letters_in(body)
            dice.random.shuffle(letters)
            letters = letters[:dice.random.randint(0, len(letters))]
            sizes, table = summed_out(Facts(facts), body, letters)
            self.assertEqual((sizes, table), slow_summed(set(facts), body, letters))
            kept = [letter for letter in brute.letters_in(body) if letter not in letters]
            counts = {}
            for calls in brute.matches(set(facts), body):
                key = tuple([calls[letter] for letter in kept])
                counts[key] = counts.get(key, 0) + 1
            self.assertEqual(table, counts)


class Limits(unittest.TestCase):
    def test_seven_parts_and_two_thousand_matches(self):
        facts = Facts([("e", x, y) for x in range(3) for y in range(x + 1)] + [("f", x) for x in range(50)])
        body = [("e", "A", "B"), ("e", "B", "C"), ("e", "C", "D"), ("e", "D", "E"), ("e", "E", "F"), ("f", "A"), ("f", "F")]
        cost, order = best_order(facts, body)
        self.assertEqual(sum(join_sizes(facts, body, order)), cost)
        self.assertEqual(summed_out(facts, body, ["A", "B", "C", "D", "E", "F"])[1], {(): 28})


if __name__ == "__main__":
    unittest.main()
