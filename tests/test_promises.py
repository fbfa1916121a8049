"""Points [92], [101]: promises, and the matches at which facts break them."""

import unittest

from rulehouse.errors import BadPromise, Loose, Uneven
from rulehouse.facts import Facts
from rulehouse.promises import Promises
from rulehouse.rules import Rules
from tests import brute
from tests.brute import Dice
from tests.odd import facts_of, kinds_of, odd_objects

EDGE = ((("e", "X", "Y"),), (("n", "X"), ("n", "Y")))
DENIAL = ((("e", "X", "X"),), ())


def slow_broken(promises, facts):
    facts = set(facts)
    return [(number, calls) for number, (body, ways) in enumerate(promises)
            for calls in brute.matches(facts, body) if not any([brute.put(way, calls) in facts for way in ways])]


def drawn_promise(dice, kinds, letters, things, extras=("not", "unlike", "not")):
    body = dice.body(2, kinds, letters, things, extras)
    held = brute.letters_in(brute.plain(body)) or list(things)
    return (tuple(body), tuple([dice.atom(kinds, held, things) for _ in range(dice.random.choice((0, 1, 1, 2)))]))


class MadePromises(unittest.TestCase):
    def test_listed(self):
        told = [[[["e", "X", "Y"], ["not", ["f", "X"]], ["unlike", "X", 1]], [["n", "X"], ["n", "Y"]]], DENIAL]
        promises = Promises(told)
        self.assertEqual(promises.listed(), [((("e", "X", "Y"), ("not", ("f", "X")), ("unlike", "X", 1)),
                                              (("n", "X"), ("n", "Y"))), DENIAL])
        self.assertEqual(kinds_of(promises.listed()[1]), kinds_of(DENIAL))
        promises.listed().clear()
        told.clear()
        self.assertEqual(len(promises), 2)
        self.assertEqual(promises, Promises(promises=tuple(promises.listed())))
        self.assertNotEqual(promises, Promises(promises.listed()[::-1]))
        self.assertEqual((len(Promises([])), Promises([]), Promises([]).listed()), (0, Promises(()), []))
        for thing in odd_objects() + [promises.listed()]:
            self.assertNotEqual(promises, thing)
        self.assertNotEqual(Promises([]), Rules([]))

    def test_bad_promises(self):
        for thing in odd_objects():
            if not isinstance(thing, (list, tuple)):
                with self.assertRaises(BadPromise) as caught:
                    Promises(thing)
                self.assertEqual(caught.exception.index, 0)
        for thing in odd_objects() + [
                (EDGE[0],), EDGE + ((),), (EDGE[0], ("n", "X")), (("e", "X", "Y"), EDGE[1]), (EDGE[0], (("not", ("n", "X")),)),
                (EDGE[0], (("unlike", "X", "Y"),)), (EDGE[0], "n"), ("e", EDGE[1]), (EDGE[0], (("n", True),)), {0: (), 1: ()},
                (EDGE[0], None), (None, EDGE[1]), (EDGE[0] + (("not", "n"),), ())]:
            with self.assertRaises(BadPromise) as caught:
                Promises([EDGE, ((("e", 1),), (("n", "Z"),)), thing])
            self.assertEqual(caught.exception.index, 2)

    def test_uneven(self):
        loose = ((("e", "X", "Y"),), (("n", "Z"),))
        for rows, index, relation in (([loose, ((("n", 1, 2),), ())], 1, "n"), ([((("e",), ("not", ("e", 1))), ())], 0, "e"),
                                      ([EDGE, ((), (("n", 1), ("e", 1), ("n",)))], 1, "e"),
                                      ([((("f", 1), ("g",), ("not", ("g", 1)), ("f",)), (("f",),))], 0, "g")):
            with self.assertRaises(Uneven) as caught:
                Promises(rows)
            self.assertEqual((caught.exception.index, caught.exception.relation), (index, relation))

    def test_loose(self):
        for promise, letter in ((((("e", "X", "Y"),), (("n", "X"), ("n", "Z"), ("n", "W"))), "Z"),
                                (((("not", ("n", "V")), ("e", "X", "Y"), ("unlike", "X", "W")), (("n", "Z"),)), "V"),
                                (((("unlike", "W", "X"), ("e", "X", "Y")), (("n", "Z"),)), "W"), (((), (("n", "A1"),)), "A1")):
            with self.assertRaises(Loose) as caught:
                Promises([EDGE, promise, ((), (("n", "Q"),))])
            self.assertEqual((caught.exception.index, caught.exception.letter), (1, letter))


class Broken(unittest.TestCase):
    def test_all_broken(self):
        promises = Promises([EDGE, DENIAL, ((), (("top",),)), ((("n", "X"), ("not", ("e", "X", "X")), ("unlike", "X", 1)), ())])
        facts = facts_of("e a a", "e a 1", "n b", "n 1", "e b c")
        self.assertEqual(promises.all_broken(facts), [
            (0, {"X": "a", "Y": "a"}), (1, {"X": "a"}), (2, {}), (3, {"X": "b"})])
        self.assertEqual(promises.all_broken(facts=facts_of("top", "n 1")), [])
        self.assertEqual(Promises([]).all_broken(facts), [])
        self.assertEqual(kinds_of(promises.all_broken(facts)[1]), kinds_of((1, {"X": "a"})))
        told = promises.all_broken(facts)
        told[0][1].clear()
        self.assertEqual(promises.all_broken(facts)[0], (0, {"X": "a", "Y": "a"}))

    def test_against_the_words(self):
        many = 0
        for seed in range(400):
            dice = Dice(seed)
            kinds = {"p": 1, "q": 2, "r": 1, "s": 0}
            promises = [drawn_promise(dice, kinds, "XYZ", ["a", 2]) for _ in range(1 + seed % 4)]
            facts = dice.facts(dice.random.randint(0, 8), kinds, ["a", 2, -1])
            told = Promises(promises).all_broken(Facts(facts))
            slow = slow_broken(promises, facts)
            self.assertEqual(sorted(told, key=str), sorted(slow, key=str))
            self.assertEqual([number for number, calls in told], sorted([number for number, calls in told]))
            ranks = [(number, [brute.term_rank(thing) for thing in calls.values()]) for number, calls in told]
            self.assertEqual(ranks, sorted(ranks))
            for number, calls in told:
                self.assertEqual(list(calls), brute.letters_in(promises[number][0]))
            many += len(told) > 1
        self.assertGreater(many, 40)


if __name__ == "__main__":
    unittest.main()
