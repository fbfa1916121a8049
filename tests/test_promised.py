"""Points [99], [100], [101]: what rules promise, and why not the others."""

import unittest

from rulehouse.errors import HasNot, NotGiven
from rulehouse.facts import Facts
from rulehouse.following import what_follows
from rulehouse.promised import falling_out, is_falling_out, promised
from rulehouse.promises import Promises
from rulehouse.rules import Rules
from tests import brute
from tests.brute import Dice
from tests.odd import facts_of, kinds_of, odd_objects, rules_of
from tests.test_closings import first_new, named
from tests.test_promises import drawn_promise, slow_broken

WAY = rules_of("way X Y if edge X Y", "way X Z if way X Y, way Y Z")
GIVEN = Promises([((("edge", "X", "Y"),), (("node", "X"),)), ((("edge", "X", "Y"),), (("node", "Y"),))])
WANTED = Promises([((("way", "X", "Y"),), (("node", "X"),)), ((("way", "X", "Y"),), (("node", "Y"),)),
                   ((("way", "X", "X"),), ()), ((("edge", "X", "Y"), ("not", ("way", "X", "Y"))), ()),
                   ((("node", "X"),), (("edge", "X", "X"),))])
NONE = Promises([])


def made_of(rules):
    return {head[0] for head, body in rules}


def is_row(rules, given, wanted, out, row):
    """By the words, of a row that is made of tuples, the numbers of those ahead being out."""
    number, index, facts, calls, match = row
    standing = set(facts.listed())
    if number in out or slow_broken(given, standing):
        return False
    if index is None:
        if calls or any([fact[0] in made_of(rules) for fact in standing]):
            return False
    else:
        head, body = rules[index]
        kept = [promise for other, promise in enumerate(wanted) if other not in out]
        if set(calls) != set(brute.letters_in([*body, head])) or slow_broken(kept, standing):
            return False
        if not all([brute.holds(part, calls, standing) for part in body]):
            return False
        standing = standing | {brute.put(head, calls)}
    return (0, match) in slow_broken([wanted[number]], standing)


def all_facts(rules, given, wanted, many):
    things = named(given + wanted + [(tuple(body) + (head,), ()) for head, body in rules])
    things = things + [first_new(things) + n for n in range(many)]
    parts = [part for body, ways in given + wanted for part in list(body) + list(ways)]
    parts += [part for head, body in rules for part in [head, *body]]
    kinds = {}
    for part in parts:
        if part[0] != "unlike":
            atom = part[1] if part[0] == "not" else part
            kinds[(atom[0], len(atom) - 1)] = True
    return things, [(relation,) + told for relation, places in sorted(kinds) for told in brute.product(things, repeat=places)]


def slow_promised(rules, given, wanted, many):
    """The greatest list, looked for in all facts of things that are named and so many new ones."""
    things, every = all_facts(rules, given, wanted, many)
    sets = [some for some in brute.subsets(every) if not slow_broken(given, some)]
    broken = {frozenset(some): {number for number, match in slow_broken(wanted, some)} for some in brute.subsets(every)}
    left = set(range(len(wanted)))
    for some in sets:
        if not any([fact[0] in made_of(rules) for fact in some]):
            left -= broken[frozenset(some)]
    deeds = [(some, head) for some in sets for head in brute.heads(rules, some)]
    if not things:
        deeds = [(some, head) for some in sets for head, body in rules if all([part in some for part in body])]
    while True:
        fallen = set()
        for some, head in deeds:
            if not broken[frozenset(some)] & left:
                fallen |= broken[frozenset(some | {head})] & left
        if not fallen:
            return sorted(left)
        left -= fallen


def drawn(seed):
    """Rules, given and wanted promises over made and given relations, with one letter at the most."""
    dice = Dice(seed)
    if seed % 2:
        made, base, letters, things = {"p": 0, "q": 0, "r": 0}, {"e": 0, "f": 0}, "X", ["a"]
    else:
        made, base, letters, things = {"p": 1, "q": 1}, {"e": 1}, "X", [1] if seed % 4 else ["a"]
    both = {**made, **base}
    rules = [dice.rule(2, made, both, letters, things, ("unlike",) if seed % 3 == 0 else ()) for _ in range(1 + seed % 3)]
    given = [drawn_promise(dice, base, letters, things) for _ in range(seed % 3)]
    wanted = [drawn_promise(dice, both, letters, things) for _ in range(1 + seed % 4)]
    return rules, given, wanted


class Promised(unittest.TestCase):
    def test_ways_and_nodes(self):
        self.assertEqual(promised(WAY, GIVEN, WANTED), [0, 1])
        self.assertEqual(promised(rules=WAY, given=NONE, wanted=WANTED), [])
        self.assertEqual(promised(Rules([]), GIVEN, WANTED), [])
        self.assertEqual(promised(WAY, GIVEN, NONE), [])
        rows = falling_out(rules=WAY, given=GIVEN, wanted=WANTED)
        self.assertEqual(sorted([row[0] for row in rows]), [2, 3, 4])
        self.assertEqual(rows, falling_out(Rules(WAY.listed()), Promises(GIVEN.listed()), WANTED))
        self.assertEqual(falling_out(WAY, GIVEN, Promises(WANTED.listed()[:2])), [])
        self.assertEqual(kinds_of(rows[-1]), ("tuple", ["int", "int", "Facts", kinds_of(rows[-1][3]), kinds_of(rows[-1][4])]))
        self.assertIsInstance(rows, list)
        self.assertEqual([row[3] for row in rows if row[1] is None], [{}, {}])

    def test_promises_that_hold_one_another_up(self):
        rules = rules_of("p if q", "q if p")
        wanted = Promises([((("p",),), (("e",),)), ((("q",),), (("e",),)), ((("q",),), (("f",),))])
        self.assertEqual(promised(rules, NONE, wanted), [0, 1])
        self.assertEqual(promised(rules, NONE, Promises(wanted.listed()[1:])), [])
        self.assertEqual(promised(rules | rules_of("p if e"), NONE, wanted), [0, 1])
        # Nothing is a beginning but what keeps the given ones, and then nothing can be done.
        never = Promises([((), ())])
        self.assertEqual(promised(rules | rules_of("p"), never, wanted), [0, 1, 2])
        self.assertEqual(promised(rules_of("p"), NONE, Promises([((), (("p",),)), ((("p",),), ())])), [])

    def test_letters_of_rules_and_promises_in_their_order(self):
        rules = rules_of("p Y if e X Y, unlike Y X, e X Z")
        wanted = Promises([((("not", ("f", "B")), ("p", "A"), ("e", "B", "A"), ("unlike", "A", "C"), ("e", "C", "C")), ())])
        row = falling_out(rules, NONE, wanted)[0]
        self.assertEqual((row[0], row[1], list(row[3]), list(row[4])), (0, 0, ["X", "Y", "Z"], ["B", "A", "C"]))
        self.assertTrue(is_row(rules.listed(), [], wanted.listed(), [], row))

    def test_relations_with_other_numbers_of_places_are_unlike(self):
        rules = rules_of("p X if e X")
        given = Promises([((("e", "X", "Y"),), ())])
        wanted = Promises([((("p",),), ()), ((("e", "X", "Y", "Z"),), (("p", "X", "Y"),)), ((("p", "X"),), (("e", "X"),))][1:2])
        self.assertEqual(promised(rules, given, Promises([((("p",),), ())])), [0])
        self.assertEqual(promised(rules, given, Promises([((("p", "X"),), (("e", "X"),))])), [0])
        self.assertEqual(promised(rules, given, wanted), [])
        self.assertEqual(promised(rules, given, Promises([((("e", "X"),), ())])), [])
        self.assertEqual(promised(rules, given, Promises([((("e", "X", "Y"),), ())])), [0])
        self.assertTrue(is_falling_out(rules, given, wanted, falling_out(rules, given, wanted)))
        with self.assertRaises(NotGiven) as caught:
            promised(rules, Promises([((("e", "X", "Y"),), ()), ((("q",), ("not", ("p", 1, 2))), ())]), wanted)
        self.assertEqual(caught.exception.thing, 1)

    def test_errors(self):
        odd = Promises([((("e",),), ()), ((("e",),), (("f",), ("p",)))])
        for call in (promised, falling_out, lambda *told: is_falling_out(*told, None)):
            with self.assertRaises(HasNot) as caught:
                call(rules_of("p if q", "p if not q"), odd, NONE)
            self.assertEqual(caught.exception.index, 1)
            with self.assertRaises(NotGiven) as caught:
                call(rules_of("p if q", "r if unlike 1 2"), odd, NONE)
            self.assertEqual(caught.exception.thing, 1)
            for given in ((((("p",),), ()),), (((("e",), ("not", ("p",))), ()),)):
                with self.assertRaises(NotGiven) as caught:
                    call(rules_of("p if q"), Promises(given), NONE)
                self.assertEqual(caught.exception.thing, 0)
            # What stands in bodies of rules alone is given.
            call(rules_of("p if e, f"), Promises(odd.listed()[:1]), NONE)

    def test_lists_of_what_falls_out(self):
        rows = falling_out(WAY, GIVEN, WANTED)
        for thing in ([], (), rows, tuple(rows), [list(row) for row in rows], rows[:1], rows[1::-1],
                      [row[:3] + (dict(list(row[3].items())[::-1]), dict(list(row[4].items())[::-1])) for row in rows]):
            self.assertIs(is_falling_out(rules=WAY, given=GIVEN, wanted=WANTED, thing=thing), True, thing)
        row = [row for row in rows if row[1] == 0][0]
        first = [row for row in rows if row[1] is None][0]
        number, index, facts, calls, match = row
        wrong = [(1, index, facts, calls, match), (5, index, facts, calls, match), (-1, index, facts, calls, match),
                 (True, index, facts, calls, match), (number, 1, facts, calls, match), (number, 2, facts, calls, match),
                 (number, False, facts, calls, match), (number, None, facts, calls, match), (number, None, facts, {}, match),
                 (number, index, facts.listed(), calls, match), (number, index, Facts([]), calls, match),
                 (number, index, facts | facts_of("way 7 7"), calls, match), (number, index, facts - facts_of("node 0"), calls, match),
                 (number, index, facts, {}, match), (number, index, facts, {**calls, "Z": 0}, match),
                 (number, index, facts, calls, {}), (number, index, facts, calls, {letter: 9 for letter in match}),
                 (number, index, facts, calls, None), (number, index, facts, None, match), row + (1,), row[:4], {0: row},
                 (number, index, facts, {letter: 9 for letter in calls}, match),
                 (number, index, facts, calls, {letter: True for letter in match}),
                 first[:3] + ({"X": 0},) + first[4:], first[:3] + ((),) + first[4:], first[:1] + (0,) + first[2:],
                 first[:2] + (facts_of("way 0 0"),) + first[3:], first[:2] + (first[2] | facts_of("edge 8 9"),) + first[3:],
                 (number, index, facts | facts_of("edge 8 9"), calls, match), (4, None, facts_of("node 0", "edge 0 0"), {}, {"X": 0})]
        self.assertIs(is_falling_out(WAY, GIVEN, WANTED, [(4, None, facts_of("node 0", "edge 1 1", "node 1"), {}, {"X": 0})]), True)
        for thing in odd_objects() + wrong:
            for ahead in ([], [one for one in rows if one[1] is None], [one for one in rows if one[1] is None][1:], rows):
                self.assertIs(is_falling_out(WAY, GIVEN, WANTED, ahead + [thing]), False, thing)
        for thing in odd_objects() + [rows + rows[:1], {}, {0: 1}, "", Facts([])]:
            if thing not in ([], ()):
                self.assertIs(is_falling_out(WAY, GIVEN, WANTED, thing), False, thing)

    def test_deeds_that_can_not_be_done(self):
        told = (rules_of("p X Y if e X, e Y, unlike X Y, unlike X 7"), NONE, Promises([((("p", "A", "B"),), ())]))
        facts = facts_of("e 1", "e 2", "e 7")
        for one, other, is_right in ((1, 2, True), (2, 1, True), (1, 1, False), (7, 1, False), (1, 7, True), (1, 3, False), (3, 1, False)):
            row = (0, 0, facts, {"X": one, "Y": other}, {"A": one, "B": other})
            self.assertIs(is_falling_out(*told, [row]), is_right, row)

    def test_what_is_out_need_not_be_kept(self):
        rules = rules_of("p if e", "q if p")
        wanted = Promises([((("p",),), ()), ((("q",),), ())])
        rows = falling_out(rules, NONE, wanted)
        self.assertEqual(rows, [(0, 0, facts_of("e"), {}, {}), (1, 1, facts_of("p"), {}, {})])
        self.assertIs(is_falling_out(rules, NONE, wanted, rows), True)
        self.assertIs(is_falling_out(rules, NONE, wanted, rows[::-1]), False)
        self.assertIs(is_falling_out(rules, NONE, wanted, [(0, 0, facts_of("e", "q"), {}, {})]), False)
        self.assertIs(is_falling_out(rules, NONE, wanted, [(0, 0, facts_of("e"), {}, {}), (1, 1, facts_of("p", "e"), {}, {})]), True)

    def test_against_all_facts(self):
        many, both = 0, 0
        for seed in range(500):
            rules, given, wanted = drawn(seed)
            told = promised(Rules(rules), Promises(given), Promises(wanted))
            new = 0 if seed % 2 else len(brute.letters_in([part for head, body in rules for part in [head, *body]])[:1]) + 1
            self.assertEqual(told, slow_promised(rules, given, wanted, new), seed)
            many += 0 < len(told) < len(wanted)
        self.assertGreater(many, 80)

    def test_rows_and_promises_go_together(self):
        behind = 0
        for seed in range(1200):
            rules, given, wanted = drawn(seed)
            if seed % 4 == 3:
                rules, facts = Dice(seed).program(1 + seed % 3, ("unlike",))
                dice = Dice(seed)
                base = {"e": 2, "f": 1}
                given = [drawn_promise(dice, base, "XY", ["a"]) for _ in range(seed % 3)]
                wanted = [drawn_promise(dice, {"p": 1, "q": 2, **base}, "XY", ["a"]) for _ in range(1 + seed % 3)]
            told = (Rules(rules), Promises(given), Promises(wanted))
            rows = falling_out(*told)
            left = promised(*told)
            self.assertEqual(sorted([row[0] for row in rows] + left), list(range(len(wanted))))
            for index, row in enumerate(rows):
                self.assertTrue(is_row(rules, given, wanted, [ahead[0] for ahead in rows[:index]], row), seed)
            self.assertIs(is_falling_out(*told, rows), True)
            behind += len([row for row in rows if row[1] is not None])
            for _ in range(3):
                facts = Facts(Dice(seed).facts(4, {"e": 2, "f": 1} if seed % 4 == 3 else {"e": 1 - seed % 2}, ["a", 0, 1]))
                if not told[1].all_broken(facts) and not any([fact[0] in made_of(rules) for fact in facts.listed()]):
                    broken = told[2].all_broken(what_follows(told[0], facts))
                    self.assertFalse({number for number, match in broken} & set(left), seed)
        self.assertGreater(behind, 100)

    def test_at_the_limits(self):
        body = (("way", "X", "Y"), ("way", "Y", "Z"), ("edge", "X", "Z"), ("not", ("node", "X")), ("not", ("node", "Y")),
                ("not", ("node", "Z")), ("not", ("edge", "Z", "X")), ("unlike", "X", "Y"), ("unlike", "Y", "Z"),
                ("unlike", "X", "a"), ("unlike", "Z", "b"))
        wanted = Promises([(body, (("node", "X"), ("node", "Y"))), (body[:5], (("way", "Y", "X"), ("way", "Z", "Y"))),
                           ((("way", "X", "Y"),), (("node", "X"),)), ((("way", "X", "Y"),), (("node", "Y"),)),
                           ((("way", "X", "X"), ("node", "a")), (("node", "b"),))])
        rules = rules_of("way X Y if edge X Y, edge Y Z", "way X Z if way X Y, way Y Z", "way X Y if way Y X, edge X Z")
        rows = falling_out(rules, GIVEN, wanted)
        self.assertEqual(promised(rules, GIVEN, wanted), [0, 1, 2, 3])
        self.assertIs(is_falling_out(rules, GIVEN, wanted, rows), True)


if __name__ == "__main__":
    unittest.main()
