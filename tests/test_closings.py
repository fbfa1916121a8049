"""Points [94], [95], [101]: promises that follow from others, closings, and facts that part them."""

import unittest

from rulehouse.closings import are_closings, closings, facts_apart
from rulehouse.errors import NoPromise
from rulehouse.facts import Facts
from rulehouse.promises import Promises
from tests import brute
from tests.brute import Dice
from tests.odd import facts_of, kinds_of, odd_objects
from tests.test_promises import drawn_promise, slow_broken

TURN = ((("e", "X", "Y"),), (("e", "Y", "X"),))
LONG = ((("e", "X", "Y"), ("e", "Y", "Z")), (("e", "X", "Z"),))
SELF = ((("e", "X", "Y"),), (("e", "X", "X"),))
THREE = Promises([TURN, LONG, SELF])


def named(promises):
    return sorted({term for body, ways in promises for part in list(body) + list(ways) for term in brute.terms_of(part)
                   if not brute.is_letter(term)}, key=brute.term_rank)


def first_new(things):
    return max([thing for thing in things if isinstance(thing, int)] + [-1]) + 1


def slow_calls(letters, things):
    """All calls to things and new ones, each new one behind all lesser ones, in order."""
    first = first_new(things)
    found = []
    for told in brute.product(things + [first + n for n in range(len(letters))], repeat=len(letters)):
        new = list(dict.fromkeys([thing for thing in told if thing not in things]))
        if new == [first + n for n in range(len(new))]:
            found.append(told)
    return sorted(found, key=lambda told: [brute.term_rank(thing) for thing in told])


def unlike(body, calls):
    return all([brute.holds(part, calls, ()) for part in body if part[0] == "unlike"])


def slow_cases(promises, number):
    body = promises[number][0]
    letters = brute.letters_in(body)
    rows = [dict(zip(letters, told)) for told in slow_calls(letters, named(promises))]
    return [calls for calls in rows if unlike(body, calls)]


def is_closing(promises, others, held, barred, thing):
    """By the words, of a closing that is made of tuples."""
    if thing[0] == "shut":
        return thing[1] in held and thing[1] in barred
    word, number, match, trees = thing
    if number not in others:
        return False
    body, ways = promises[number]
    if set(match) != set(brute.letters_in(body)) or not unlike(body, match):
        return False
    if not all([brute.put(atom, match) in held for atom in brute.plain(body)]):
        return False
    facts = [brute.put(part[1], match) for part in body if part[0] == "not"] + [brute.put(way, match) for way in ways]
    return len(facts) == len(trees) and all(
        [is_closing(promises, others, held | {fact}, barred, tree) for fact, tree in zip(facts, trees)])


def held_and_barred(promise, calls):
    body, ways = promise
    held = {brute.put(atom, calls) for atom in brute.plain(body)}
    return held, {brute.put(part[1], calls) for part in body if part[0] == "not"} | {brute.put(way, calls) for way in ways}


def all_facts(promises, many):
    """All facts over the things of promises and as many new ones."""
    things = named(promises)
    things = things + [first_new(things) + n for n in range(many)]
    kinds = {}
    for body, ways in promises:
        for part in list(body) + list(ways):
            if part[0] != "unlike":
                atom = part[1] if part[0] == "not" else part
                kinds[atom[0]] = len(atom) - 1
    return [(relation,) + told for relation in sorted(kinds) for told in brute.product(things, repeat=kinds[relation])]


def drawn(seed):
    dice = Dice(seed)
    if seed % 3 == 0:
        return [drawn_promise(dice, {"p": 0, "q": 0, "r": 0, "s": 0, "t": 0}, "X", ["a"], ("not", "not", "not")) for _ in range(2 + seed % 4)]
    kinds = {"p": 1, "q": 1, "r": 0} if seed % 3 == 1 else {"e": 2, "r": 0}
    return [drawn_promise(dice, kinds, "XY", [1]) for _ in range(2 + seed % 3)]


class Closings(unittest.TestCase):
    def test_closings(self):
        told = closings(THREE, 2)
        self.assertEqual([case for case, closing in told], [{"X": 0, "Y": 0}, {"X": 0, "Y": 1}])
        self.assertEqual(told[0][1], ("shut", ("e", 0, 0)))
        self.assertEqual(told[1][1], ("split", 0, {"X": 0, "Y": 1}, (
            ("split", 1, {"X": 0, "Y": 1, "Z": 0}, (("shut", ("e", 0, 0)),)),)))
        self.assertEqual(kinds_of(told[1]), ("tuple", [kinds_of({"X": 0, "Y": 1}), kinds_of(told[1][1])]))
        self.assertIsNone(facts_apart(promises=THREE, number=2))
        self.assertIsNone(closings(promises=THREE, number=0))
        self.assertEqual(facts_apart(THREE, 0), facts_of("e 0 0", "e 0 1"))
        self.assertIs(are_closings(promises=THREE, number=2, thing=told), True)
        self.assertEqual(closings(Promises([SELF, SELF]), 1)[1],
                         ({"X": 0, "Y": 1}, ("split", 0, {"X": 0, "Y": 1}, (("shut", ("e", 0, 0)),))))

    def test_cases_with_things_of_all_promises(self):
        promises = Promises([((("p", "X"), ("unlike", "X", "Y"), ("p", "Y")), (("p", "X"),)), ((("q", 3), ("q", "b")), ()),
                             ((("r", -1),), ())])
        told = closings(promises, 0)
        self.assertEqual([(case["X"], case["Y"]) for case, closing in told], [
            (one, other) for one in (-1, 3, 4, "b") for other in (-1, 3, 4, 5, "b") if one != other and (one == 4 or other != 5)])
        self.assertEqual([list(case) for case, closing in told][0], ["X", "Y"])
        self.assertEqual({closing[0] for case, closing in told}, {"shut"})

    def test_wrong_closings(self):
        first, second = closings(THREE, 2)
        split = second[1]
        case = second[0]
        turn = {"X": 0, "Y": 1}
        long = {"X": 0, "Y": 1, "Z": 0}
        shut = ("shut", ("e", 0, 0))
        right = [list(first), [{"Y": 1, "X": 0}, ["split", 0, {"Y": 1, "X": 0}, [["split", 1, long, [["shut", ["e", 0, 0]]]]]]]]
        self.assertIs(are_closings(THREE, 2, right), True)
        again = ("split", 0, turn, (split,))
        self.assertIs(are_closings(THREE, 2, (first, (case, again))), True)
        for thing in odd_objects() + [[first], [second, first], [first, second, second], [first, None], [None, second],
                                      [first, "ab"], [first, 5], [first, (case, shut)], [first, (case,)],
                                      [first, (case, split, ())], [first, ({**case, "Z": 0}, split)], [first, ({"X": 0, "Y": True}, split)],
                                      [first, ({"X": 0, "Y": 2}, split)], [first, ({"X": 0}, split)], {0: first, 1: second}]:
            self.assertIs(are_closings(THREE, 2, thing), False, thing)
        for closing in odd_objects() + [
                ("split", 1, long, (shut,)), ("split", 2, turn, (shut,)), ("split", 0, turn, (shut,)), ("split", 0, turn, ()),
                ("split", 0, turn, (split[3][0], split[3][0])), ("split", 0, {"X": 1, "Y": 0}, split[3]), ("split", 0, long, split[3]),
                ("split", True, long, split[3]), ("split", 3, turn, split[3]), ("split", -1, turn, split[3]), ("split", 0, turn, shut),
                ("split", 0, turn, None), ("shut",), ("shut", ("e", 0, 1)), ("split", 0, turn, (("split", 1, long, (("shot", ("e", 0, 0)),)),)),
                ("parted",) + split[1:], ("split", 0, turn, (("split", 1, long, (("shut", ("e", 0, True)),)),)), ("shut", "e"), ("shut", None), ("split", 0, turn),
                ("split", 0, None, split[3]), ("shut",) + split[1:], ("split", 0, {"X": False, "Y": 1}, split[3])]:
            self.assertIs(are_closings(THREE, 2, [first, (case, closing)]), False, closing)

    def test_splits_by_denials_and_nots(self):
        promises = Promises([((("p", "X"), ("q", "X")), ()), ((("p", "X"), ("not", ("r", "X"))), (("q", "X"),)), ((("p", "X"),), (("r", "X"),))])
        told = closings(promises, 2)
        self.assertEqual(told, [({"X": 0}, ("split", 1, {"X": 0}, (("shut", ("r", 0)), ("split", 0, {"X": 0}, ()))))])
        self.assertIs(are_closings(promises, 2, told), True)
        unlike_ones = Promises([((("p", "X"), ("p", "Y"), ("unlike", "X", "Y")), ()), ((("p", 1), ("p", 2)), ()), ((("p", "X"), ("p", 1)), ())])
        self.assertIsNotNone(closings(unlike_ones, 1))
        self.assertEqual(facts_apart(unlike_ones, 2), facts_of("p 1"))
        alone = Promises([((("p", "X"), ("p", "Y"), ("unlike", "X", "Y")), ()), ((("p", 1),), ())])
        self.assertEqual(facts_apart(alone, 1), facts_of("p 1"))
        self.assertIs(are_closings(alone, 1, [({}, ("split", 0, {"X": 1, "Y": 1}, ()))]), False)
        more = Promises(alone.listed()[:1] + [((("p", 1), ("p", 2)), ())])
        self.assertIs(are_closings(more, 1, [({}, ("split", 0, {"X": 1, "Y": 2}, ()))]), True)

    def test_errors(self):
        for call in (closings, facts_apart, lambda *told: are_closings(*told, None)):
            for thing in odd_objects() + [3, -1, "0", [0]]:
                with self.assertRaises(NoPromise) as caught:
                    call(THREE, thing)
                self.assertIs(caught.exception.number, thing)
            self.assertRaises(NoPromise, call, Promises([]), 0)

    def test_against_the_words(self):
        found = [0, 0]
        for seed in range(500):
            rows = drawn(seed)
            promises = Promises(rows)
            number = seed % len(rows)
            others = [other for other in range(len(rows)) if other != number]
            told, apart = closings(promises, number), facts_apart(promises, number)
            self.assertNotEqual(told is None, apart is None)
            many = len(brute.letters_in(rows[number][0]))
            every = all_facts(rows, many)
            if len(every) <= 7 or seed % 20 == 0 and len(every) <= 9:
                parted = any([{row for row, calls in slow_broken(rows, facts)} == {number} for facts in brute.subsets(every)])
                self.assertEqual(parted, told is None, (rows, number))
            found[told is None] += 1
            if apart is not None:
                broken = {row for row, calls in slow_broken(rows, apart.listed())}
                self.assertEqual(broken, {number})
                self.assertLessEqual(len(apart.things()), len(named(rows)) + many)
                self.assertEqual(apart, facts_apart(Promises([list(row) for row in rows]), number))
                continue
            self.assertEqual([case for case, closing in told], slow_cases(rows, number))
            self.assertTrue(are_closings(promises, number, told))
            for case, closing in told:
                self.assertTrue(is_closing(rows, others, *held_and_barred(rows[number], case), closing))
                self.assertEqual(list(case), brute.letters_in(rows[number][0]))
            self.assertEqual(told, closings(Promises([list(row) for row in rows]), number))
        self.assertGreater(min(found), 60)


class Limits(unittest.TestCase):
    def test_three_letters_and_two_things(self):
        promises = Promises([LONG, TURN, ((("e", "X", "Y"), ("e", "Y", "Z"), ("f", "Z", "a")), (("f", "X", "b"), ("f", "X", "a"))),
                             ((("f", "X", "b"), ("e", "X", "Y"), ("unlike", "X", "Y")), (("f", "Y", "a"),)),
                             ((("e", "X", "Y"), ("e", "Y", "Z"), ("f", "Z", "a"), ("unlike", "X", "Z"), ("unlike", "X", "Y")),
                              (("f", "X", "a"), ("f", "Y", "a")))])
        told = closings(promises, 4)
        self.assertIsNotNone(told)
        self.assertTrue(are_closings(promises, 4, told))
        self.assertIsNotNone(facts_apart(promises, 2))

    def test_pigeons_and_holes(self):
        # Each of three things of one kind is in one of two, and none of these has two: not so for three that are unlike.
        atoms = (("p", "X"), ("p", "Y"), ("p", "Z"))
        promises = Promises([((("p", "X"),), (("in", "X", "a"), ("in", "X", "b"))),
                             ((("in", "X", "Z"), ("in", "Y", "Z"), ("unlike", "X", "Y")), ()),
                             (atoms + (("unlike", "X", "Y"), ("unlike", "Y", "Z"), ("unlike", "X", "Z")), ())])
        told = closings(promises, 2)
        self.assertTrue(are_closings(promises, 2, told))
        self.assertIsNotNone(facts_apart(Promises(promises.listed()[:2] + [((("p", "X"), ("p", "Y"), ("unlike", "X", "Y")), ())]), 2))


if __name__ == "__main__":
    unittest.main()
