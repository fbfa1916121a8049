"""Points [93], [96], [97], [98], [101]: deeds, what they can break, why not, and what is left to look at."""

import unittest

from rulehouse.breaking import are_safe_closings, breaking, done_deed, looks, safe_closings
from rulehouse.errors import BadDeed, BadKind, NoPromise
from rulehouse.facts import Facts
from rulehouse.promises import Promises
from tests import brute
from tests.brute import Dice
from tests.odd import facts_of, kinds_of, odd_objects
from tests.test_closings import LONG, TURN, first_new, is_closing, named, slow_calls, unlike
from tests.test_promises import drawn_promise, slow_broken

NODES = ((("e", "X", "Y"),), (("n", "X"), ))
BOTH = Promises([NODES, TURN])
PUT = ((("n", "X"), ("n", "Y")), (), (("e", "X", "Y"),))
TAKE = ((("n", "X"), ("unlike", "X", "Y"), ("e", "Y", "Y")), (("n", "X"),), ())
NO_KINDS = [((), ()), ((), (), (), ()), ((("not", ("n", "X")),), (), ()), ((), (("unlike", "X", "Y"),), ()), ((), (), (("not", ("n", 1)),)),
            (("n", "X"), (), ()), ((), ("n", "X"), ()), ((), (), "n"), (None, (), ()), ((), None, ()), ((("n", True),), (), ()), {0: (), 1: (), 2: ()}]


def letters_of(kind):
    return brute.letters_in([part for parts in kind for part in parts])


def done(kind, calls, facts):
    takes, puts = [{brute.put(atom, calls) for atom in atoms} for atoms in kind[1:]]
    return (set(facts) - takes) | puts


def can_be_done(kind, calls, facts):
    return all([brute.put(atom, calls) in facts for atom in brute.plain(kind[0])]) and unlike(kind[0], calls)


def slow_cases(rows, kind, number):
    """The cases of a kind and a promise: (calls, match, held, barred)."""
    body, ways = rows[number]
    mine, theirs = letters_of(kind), brute.letters_in(body)
    things = named(rows + [(part, ()) for part in kind])
    found = []
    for told in slow_calls(mine + [letter + "1" for letter in theirs], things):
        calls, match = dict(zip(mine, told)), dict(zip(theirs, told[len(mine):]))
        takes, puts = [{brute.put(atom, calls) for atom in atoms} for atoms in kind[1:]]
        atoms = {brute.put(atom, match) for atom in brute.plain(body)}
        lacking = {brute.put(part[1], match) for part in body if part[0] == "not"} | {brute.put(way, match) for way in ways}
        if unlike(kind[0], calls) and unlike(body, match) and not atoms & takes - puts and not lacking & puts:
            held = {brute.put(atom, calls) for atom in brute.plain(kind[0])} | (atoms - puts)
            found.append((calls, match, held, lacking - takes))
    return found


def all_facts(rows, kind, many):
    things = named(rows + [(part, ()) for part in kind])
    things = things + [first_new(things) + n for n in range(many)]
    kinds = {}
    for part in [part for body, ways in rows for part in list(body) + list(ways)] + [part for parts in kind for part in parts]:
        if part[0] != "unlike":
            atom = part[1] if part[0] == "not" else part
            kinds[atom[0]] = len(atom) - 1
    return things, [(relation,) + told for relation in sorted(kinds) for told in brute.product(things, repeat=kinds[relation])]


def drawn_kind(dice, kinds, letters, things):
    def atoms(most):
        return tuple([dice.atom(kinds, letters, things) for _ in range(dice.random.randint(0, most))])
    body = atoms(1)
    if dice.random.random() < 0.3:
        body += (("unlike", dice.term(letters, things), dice.term(letters, things)),)
    return (body, atoms(2), atoms(2))


def drawn(seed):
    dice = Dice(seed)
    if seed % 3 == 0:
        kinds, letters, things = {"p": 0, "q": 0, "r": 0, "s": 0}, "X", ["a"]
        return [drawn_promise(dice, kinds, letters, things, ("not", "not")) for _ in range(1 + seed % 4)], drawn_kind(dice, kinds, letters, things)
    kinds, letters, things = ({"p": 1, "r": 0}, "X", [1]) if seed % 3 == 1 else ({"e": 2}, "XY", ["a"])
    letters = letters[:1] if seed % 2 else letters
    return [drawn_promise(dice, kinds, letters, things) for _ in range(1 + seed % 3)], drawn_kind(dice, kinds, letters[:1], things)


class Deeds(unittest.TestCase):
    def test_done_deed(self):
        facts = facts_of("e a b", "n a", "n b")
        self.assertEqual(done_deed(facts, ((), (("n", "a"), ("n", "z")), (("e", "b", "a"), ("n", "b")))), facts_of("e a b", "e b a", "n b"))
        self.assertEqual(done_deed(facts=facts, deed=[[], [["n", "a"]], [["n", "a"]]]), facts)
        self.assertEqual(done_deed(Facts([]), ([], [("p",)], [("p",)])), facts_of("p"))
        self.assertEqual(done_deed(facts, ((), (), ())), facts)

    def test_bad_deeds(self):
        for call in (lambda thing: done_deed(Facts([]), thing), lambda thing: looks(BOTH, thing)):
            for thing in odd_objects() + NO_KINDS + [PUT, ((), (("n", "X"),), ()), ((), (), (("n", "X"),)), ((("n", "a"),), (), ()),
                                                     ((("unlike", 1, 2),), (), ())]:
                with self.assertRaises(BadDeed) as caught:
                    call(thing)
                self.assertIs(caught.exception.thing, thing)


class Breaking(unittest.TestCase):
    def test_breaking(self):
        self.assertIsNone(breaking(BOTH, PUT, 0))
        facts, calls, match = breaking(promises=BOTH, kind=PUT, number=1)
        self.assertEqual((facts, calls, match), (facts_of("n 0", "n 1"), {"X": 0, "Y": 1}, {"X": 0, "Y": 1}))
        self.assertIsNone(breaking(BOTH, ((("n", "X"), ("n", "Y")), (), (("e", "X", "Y"), ("e", "Y", "X"))), 1))
        facts, calls, match = breaking(BOTH, TAKE, 0)
        self.assertEqual(slow_broken(BOTH.listed(), done(TAKE, calls, facts.listed())), [(0, match)])
        self.assertEqual(kinds_of(breaking(BOTH, PUT, 1)), ("tuple", ["Facts", kinds_of({"X": 0, "Y": 1}), kinds_of({"X": 0, "Y": 1})]))
        self.assertIsNone(safe_closings(BOTH, PUT, 1))

    def test_safe_closings(self):
        told = safe_closings(BOTH, PUT, 0)
        self.assertIs(are_safe_closings(promises=BOTH, kind=PUT, number=0, thing=told), True)
        cases = slow_cases(BOTH.listed(), PUT, 0)
        self.assertEqual([case for case, closing in told], [(calls, match) for calls, match, held, barred in cases])
        self.assertEqual(kinds_of(told[0]), ("tuple", [("tuple", [kinds_of({"X": 0, "Y": 0})] * 2), kinds_of(told[0][1])]))
        self.assertEqual(told, safe_closings(promises=BOTH, kind=PUT, number=0))

    def test_letters_that_stand_in_no_atom_of_the_body_stand_for_any_things(self):
        kind = ((("unlike", "X", "a"),), (("n", "X"),), ())
        facts, calls, match = breaking(BOTH, kind, 0)
        self.assertNotEqual(calls["X"], "a")
        self.assertTrue(can_be_done(kind, calls, set(facts.listed())))
        self.assertEqual([number for number, told in slow_broken(BOTH.listed(), done(kind, calls, facts.listed()))], [0])
        self.assertIsNone(breaking(Promises([((("n", "a"),), ())]), ((("unlike", "X", "a"),), (), (("n", "X"),)), 0))
        self.assertIsNotNone(breaking(Promises([((("n", "a"),), ())]), ((("unlike", "X", "b"),), (), (("n", "X"),)), 0))

    def test_deeds_that_take_and_put_the_same(self):
        kind = ((), (("n", "X"),), (("n", "X"),))
        self.assertIsNone(breaking(BOTH, kind, 0))
        self.assertTrue(are_safe_closings(BOTH, kind, 0, safe_closings(BOTH, kind, 0)))
        self.assertEqual(looks(BOTH, ((), (("n", 1),), (("n", 1),))), [])
        denial = Promises([((("n", "X"),), ())])
        self.assertIsNotNone(breaking(denial, kind, 0))
        self.assertEqual(looks(denial, ((), (("n", 1),), (("n", 1),))), [(0, {"X": 1})])

    def test_wrong_closings(self):
        told = safe_closings(BOTH, PUT, 0)
        first = told[0]
        self.assertIs(are_safe_closings(BOTH, PUT, 0, tuple([[[dict(list(one.items())[::-1]), other], closing]
                                                            for (one, other), closing in told])), True)
        for thing in odd_objects() + [told[1:], told + told[:1], told[::-1], [first[:1]] + told[1:], [first + (1,)] + told[1:],
                                      [((first[0][0],), first[1])] + told[1:], [(first[0] + ({},), first[1])] + told[1:],
                                      [({**first[0][0]}, first[1])] + told[1:], [(({}, first[0][1]), first[1])] + told[1:],
                                      [((first[0][0], {}), first[1])] + told[1:], [(first[0], ("shut", ("e", 0, 0)))] + told[1:],
                                      [(first[0], None)] + told[1:], [None] + told[1:], {0: first}]:
            self.assertIs(are_safe_closings(BOTH, PUT, 0, thing), False, thing)
        for thing in odd_objects():
            self.assertIs(are_safe_closings(BOTH, PUT, 0, [(first[0], thing)] + told[1:]), False)
            self.assertIs(are_safe_closings(BOTH, PUT, 0, [(thing, first[1])] + told[1:]), False)

    def test_errors(self):
        for call in (breaking, safe_closings, lambda *told: are_safe_closings(*told, None)):
            for thing in odd_objects() + NO_KINDS:
                with self.assertRaises(BadKind) as caught:
                    call(BOTH, thing, None)
                self.assertIs(caught.exception.thing, thing)
            for thing in odd_objects() + [2, -1, "0", [0]]:
                with self.assertRaises(NoPromise) as caught:
                    call(BOTH, PUT, thing)
                self.assertIs(caught.exception.number, thing)

    def test_against_the_words(self):
        found = [0, 0]
        for seed in range(400):
            rows, kind = drawn(seed)
            promises = Promises(rows)
            number = seed % len(rows)
            triple, told = breaking(promises, kind, number), safe_closings(promises, kind, number)
            self.assertNotEqual(triple is None, told is None)
            found[told is None] += 1
            letters = letters_of(kind)
            things, every = all_facts(rows, kind, len(letters) + len(brute.letters_in(rows[number][0])))
            if len(every) <= 6 or len(every) <= 9 and seed % 6 == 0:
                is_broken = False
                for facts in brute.subsets(every):
                    if not slow_broken(rows, facts):
                        for values in brute.product(things, repeat=len(letters)):
                            calls = dict(zip(letters, values))
                            if can_be_done(kind, calls, facts):
                                behind = slow_broken(rows[number:number + 1], done(kind, calls, facts))
                                is_broken = is_broken or bool(behind)
                self.assertEqual(is_broken, told is None, (rows, kind, number))
            if triple is not None:
                facts, calls, match = triple
                self.assertEqual(slow_broken(rows, facts.listed()), [])
                self.assertEqual(list(calls), letters)
                self.assertTrue(can_be_done(kind, calls, facts))
                self.assertIn((number, match), slow_broken(rows, done(kind, calls, facts.listed())))
                self.assertEqual(triple, breaking(Promises([list(row) for row in rows]), [list(part) for part in kind], number))
                continue
            cases = slow_cases(rows, kind, number)
            self.assertEqual([case for case, closing in told], [(calls, match) for calls, match, held, barred in cases])
            for (case, closing), (calls, match, held, barred) in zip(told, cases):
                self.assertTrue(is_closing(rows, range(len(rows)), held, barred, closing))
            self.assertTrue(are_safe_closings(promises, kind, number, told))
        self.assertGreater(min(found), 30)


class Looks(unittest.TestCase):
    def test_looks(self):
        promises = Promises([NODES, LONG])
        self.assertEqual(looks(promises, ((), (), (("e", 3, "b"),))), [(0, {"X": 3, "Y": "b"}), (1, {"X": 3, "Y": "b"}), (1, {"Y": 3, "Z": "b"})])
        self.assertEqual(looks(promises=promises, deed=[[], [["n", "a"], ["n", 2]], []]), [(0, {"X": 2}), (0, {"X": "a"})])
        self.assertEqual(looks(promises, ((), (("e", 1, 2),), ())), [(1, {"X": 1, "Z": 2})])
        self.assertEqual(looks(promises, ((), (), (("n", 1), ("zz",)))), [])
        self.assertEqual(looks(promises, ((), (), ())), [])
        self.assertEqual(kinds_of(looks(promises, ((), (("n", 1),), ()))), kinds_of([(0, {"X": 1})]))

    def test_other_relations_touch_nothing(self):
        promises = Promises([((("e", "X", "Y"), ("k", "X")), (("g", "X", "Y"),))])
        for fact in (("h", 1), ("k", 1, 2), ("k",), ("e", 1)):
            self.assertEqual(looks(promises, ((), (("g", 1, 2),), (fact,))), [(0, {"X": 1, "Y": 2})], fact)
            self.assertEqual(looks(promises, ((), (("g", 1, 2), fact), ())), [(0, {"X": 1, "Y": 2})], fact)

    def test_what_can_not_be_broken_is_no_look(self):
        promises = Promises([((("p", "X"),), (("q", "X"),)), ((("q", "X"),), ())])
        # No facts that keep both have a p, so the put one alone can break.
        self.assertEqual(looks(promises, ((), (("q", 1),), ())), [])
        self.assertEqual(looks(promises, ((), (), (("p", 1),))), [(0, {"X": 1})])
        self.assertEqual(looks(promises, ((), (), (("p", 1), ("q", 1)))), [(1, {"X": 1})])
        self.assertEqual(looks(promises, ((), (("q", 2),), (("p", 1),))), [(0, {"X": 1})])

    def test_those_with_all_calls_of_another_one(self):
        promises = Promises([((("p", "X"), ("q", "X", "Y")), ()), ((), (("top",),)), ((("p", "X"), ("not", ("q", "X", "X"))), ())])
        told = looks(promises, ((), (("top",), ("q", 1, 1)), (("p", 1), ("q", 1, 2), ("q", 2, 1))))
        # No facts that keep all of them have p 2, so q 2 1 can break nothing.
        self.assertEqual(told, [(0, {"X": 1}), (1, {}), (2, {"X": 1})])
        told = looks(Promises(promises.listed()[:2]), ((), (("top",),), (("p", 1), ("q", 1, 2), ("q", 2, 1))))
        self.assertEqual(told, [(0, {"X": 1}), (0, {"X": 2, "Y": 1}), (1, {})])

    def test_against_the_words(self):
        many = [0, 0]
        for seed in range(400):
            rows, kind = drawn(seed)
            things, every = all_facts(rows, kind, 0)
            dice = Dice(seed)
            letters = letters_of(kind)
            values = {letter: dice.random.choice(things or [5]) for letter in letters}
            deed = ((), tuple([brute.put(atom, values) for atom in kind[1]]), tuple([brute.put(atom, values) for atom in kind[2]]))
            told = looks(Promises(rows), deed)
            self.assertEqual(told, looks(Promises([list(row) for row in rows]), [list(part) for part in deed]))
            most = max([len(brute.letters_in(body)) for body, ways in rows])
            things, every = all_facts(rows, deed, most)
            if len(every) > 9 or len(every) > 7 and seed % 4:
                continue
            broken = []
            for facts in brute.subsets(every):
                if not slow_broken(rows, facts):
                    broken.extend([pair for pair in slow_broken(rows, done(deed, {}, facts)) if pair not in broken])
            slow = self.slow_looks(rows, deed, broken)
            self.assertEqual(told, slow, (rows, deed))
            many[0] += len(told) > 1
            many[1] += told == []
            self.assertEqual(told == [], broken == [])
            for number, match in broken:
                self.assertTrue(any([number == other and calls.items() <= match.items() for other, calls in told]))
        self.assertGreater(min(many), 10, many)

    def slow_looks(self, rows, deed, broken):
        gone = set(deed[1]) - set(deed[2])
        found = []
        for number, (body, ways) in enumerate(rows):
            touched = [(atom, fact) for atom in brute.plain(body) for fact in deed[2]]
            touched += [(atom, fact) for atom in [part[1] for part in body if part[0] == "not"] + list(ways) for fact in gone]
            here = []
            for atom, fact in touched:
                calls = dict(zip(atom[1:], fact[1:]))
                calls = {letter: calls[letter] for letter in brute.letters_in(body) if letter in calls}
                if len(atom) == len(fact) and brute.put(atom, calls) == fact and calls not in here:
                    if any([number == other and calls.items() <= match.items() for other, match in broken]):
                        here.append(calls)
            here = [calls for calls in here if not any([other.items() < calls.items() for other in here])]
            ranks = [([brute.term_rank(letter) for letter in calls], [brute.term_rank(thing) for thing in calls.values()]) for calls in here]
            found.extend([(number, calls) for rank, calls in sorted(zip(ranks, here), key=lambda pair: pair[0])])
        return found


class Limits(unittest.TestCase):
    def test_three_letters_and_two_things(self):
        promises = Promises([LONG, TURN, ((("e", "X", "Y"), ("unlike", "X", "Y"), ("not", ("f", "X", "a"))), (("f", "Y", "a"), ("f", "X", "b"))),
                             ((("e", "X", "Y"), ("f", "X", "a"), ("f", "Y", "b")), ()), ((("f", "X", "Y"),), (("e", "X", "X"),))])
        kind = ((("e", "X", "Y"), ("f", "Y", "a")), (("f", "X", "a"), ("f", "Y", "b")), (("f", "X", "b"), ("e", "Y", "X")))
        for number in range(5):
            told, triple = safe_closings(promises, kind, number), breaking(promises, kind, number)
            self.assertNotEqual(told is None, triple is None)
            if told is not None:
                self.assertTrue(are_safe_closings(promises, kind, number, told))


if __name__ == "__main__":
    unittest.main()
