"""Points [138] to [145], [147]: the house, its deeds, news, whys, and what was."""

import random
import unittest

from rulehouse.errors import BadStep, Broken, NoFact, NoName, NoVersion, RingThroughNot, TakenName, Uneven
from rulehouse.facts import Facts
from rulehouse.houses import House
from rulehouse.kept import Kept
from rulehouse.levels import is_not_ring, levels
from rulehouse.rules import Rules
from tests import brute
from tests.brute import Dice
from tests.odd import facts_of, kinds_of, odd_objects, rules_of
from tests.test_following import NO_FACTS
from tests.test_kept import brute_levels, slow_numbers
from tests.test_promises import drawn_promise, slow_broken

WAY, LONG = rules_of("way X Y if edge X Y", "way X Z if edge X Y, way Y Z").listed()
LONE = rules_of("lone X if node X, not way X X").listed()[0]
GOES = rules_of("goes X if way X Y").listed()[0]
NO_LOOP = ((("edge", "X", "X"),), ())
NODES = ((("way", "X", "Y"),), (("node", "X"), ("gate", "Y")))
A_B, B_C, B_A = ("edge", "a", "b"), ("edge", "b", "c"), ("edge", "b", "a")
RULES = [("lay", "r1", WAY), ("lay", "r2", LONG), ("lay", "a", LONE)]
NO_STEPS = [("put",), ("put", "p"), ("put", ("p", "X")), ("put", A_B, 1), ("take", None), ("give", A_B), ("lay", "r"), ("lay", "R", WAY),
            ("lay", "r", (("p", "X"), ())), ("lay", "r", (("p", 1), (("p", 1, 2),))), ("lay", "r", A_B), ("lay", 1, WAY), ("lay", "r", WAY, 1),
            ("lift", "R"), ("lift", None), ("lift", "r", WAY), ("unwatch",), ("watch", "w"), ("watch", "not", WAY), ("watch", "w", NO_LOOP),
            ("promise", "p", ((("e", "X"),), (("q", "Y"),))), ("promise", "p", ((("e", 1), ("e",)), ())), ("promise", "p", WAY),
            ("promise", "p", NO_LOOP[:1]), ("promise", "if", NO_LOOP), ("release", 3), ("release", ["p"]), ["put"], {"put": A_B}, (("put",), A_B),
            ("lay", "r", (("p", "X"), (("q", "X"), ("not", ("q", "Y")))))]


def first_house():
    house = House()
    house.do(RULES + [("put", A_B), ("put", B_C), ("put", ("node", "c")), ("watch", "w", GOES), ("promise", "p", NO_LOOP)])
    return house


class Slow:
    """A house by the words: what is kept, and what was."""

    def __init__(self):
        self.past = [({}, {}, {}, {})]
        self.done = []
        self.back = []
        self.marks = {}

    def after(self, steps, now):
        """What is kept behind steps, or the error that they bring."""
        given, rules, watchers, promises = [dict(part) for part in now]
        for step in steps:
            if step[0] in ("put", "take"):
                given.pop(step[1], None)
                if step[0] == "put":
                    given[step[1]] = True
                continue
            kind = {"lay": rules, "lift": rules, "watch": watchers, "unwatch": watchers}.get(step[0], promises)
            if len(step) == 3 and step[1] in kind:
                return TakenName
            if len(step) == 2 and step[1] not in kind:
                return NoName
            if len(step) == 3:
                kind[step[1]] = step[2]
            else:
                del kind[step[1]]
        listed = [rules[name] for name in sorted(rules)]
        kinds = [(part[1] if part[0] == "not" else part) for head, body in listed for part in [head, *body] if part[0] != "unlike"]
        if any([one[0] == other[0] and len(one) != len(other) for one in kinds for other in kinds]):
            return Uneven
        if levels(Rules(listed)) is None:
            return RingThroughNot
        return given, rules, watchers, promises

    def standing(self, now):
        return brute_levels([now[1][name] for name in sorted(now[1])], now[0])

    def broken(self, now):
        found = []
        for name in sorted(now[3]):
            told = slow_broken([now[3][name]], self.standing(now))
            told = sorted(told, key=lambda pair: [brute.term_rank(thing) for thing in pair[1].values()])
            found.extend([(name, match) for number, match in told[:1]])
        return found

    def answers(self, now, name):
        return sorted(brute.heads([now[2][name]], self.standing(now)), key=brute.atom_rank)

    def mark(self, steps):
        for step in steps:
            if step[0] in ("watch", "unwatch"):
                self.marks.pop(step[1], None)
                if step[1] in self.past[-1][2]:
                    self.marks[step[1]] = self.answers(self.past[-1], step[1])


def change(old, new):
    return (sorted(new - old, key=brute.atom_rank), sorted(old - new, key=brute.atom_rank))


def drawn_steps(dice, slow):
    """Some steps, most of which can be done."""
    made, given = {"p": 1, "q": 2, "r": 1}, {"e": 2, "f": 1}
    steps = []
    for _ in range(dice.random.randint(0, 4)):
        word = dice.random.choice(("put", "put", "put", "take", "take", "lay", "lay", "lift", "watch", "unwatch", "promise", "release"))
        name = dice.random.choice("abc")
        if word in ("put", "take"):
            steps.append((word, dice.fact({**made, **given} if dice.random.random() < 0.2 else given, ["a", "b", 3])))
        elif word in ("lift", "unwatch", "release"):
            steps.append((word, name))
        elif word == "promise":
            steps.append((word, name, drawn_promise(dice, {**made, **given}, "XY", ["a"])))
        else:
            steps.append((word, name, dice.rule(2, made, {**made, **given}, "XYZ", ["a", 3], ("not", "unlike"))))
    return steps


class Houses(unittest.TestCase):
    def test_an_empty_house(self):
        house = House()
        self.assertEqual((house.given(), house.standing(), house.rules(), house.watchers(), house.promises(), house.count(), house.deeds()),
                         (Facts([]), Facts([]), {}, {}, {}, 0, []))
        self.assertEqual((house.undo(), house.again()), (None, None))
        self.assertEqual(house, House())
        self.assertEqual((house.do([]), house.count(), house.deeds(), house == House()), (([], []), 1, [[]], True))
        self.assertEqual((house.undo(), house.count(), house.again(), house.count()), (([], []), 0, ([], []), 1))

    def test_what_is_kept(self):
        house = first_house()
        self.assertEqual(list(house.rules().items()), [("a", LONE), ("r1", WAY), ("r2", LONG)])
        self.assertEqual((house.watchers(), house.promises()), ({"w": GOES}, {"p": NO_LOOP}))
        self.assertEqual(house.given(), Facts([A_B, B_C, ("node", "c")]))
        self.assertEqual(house.standing(), house.given() | facts_of("way a b", "way a c", "way b c", "lone c"))
        self.assertEqual(kinds_of(house.rules()["r1"]), kinds_of(WAY))
        house = House()
        self.assertEqual(house.do(steps=(["put", ["edge", "a", "b"]], ["lay", "r", [["way", "X", "Y"], [["edge", "X", "Y"]]]],
                                         ["promise", "q", [[["edge", "X", "X"]], []]])), ([A_B, ("way", "a", "b")], []))
        self.assertEqual((house.rules(), house.promises(), house.given()), ({"r": WAY}, {"q": NO_LOOP}, Facts([A_B])))
        self.assertEqual(kinds_of(house.promises()["q"]), kinds_of(NO_LOOP))
        self.assertEqual(house.deeds(), [[("put", A_B), ("lay", "r", WAY), ("promise", "q", NO_LOOP)]])
        self.assertEqual(kinds_of(house.deeds()[0]), kinds_of([("put", A_B), ("lay", "r", WAY), ("promise", "q", NO_LOOP)]))
        for told in (house.rules(), house.promises(), house.deeds(), house.deeds()[0]):
            told.clear()
        self.assertEqual((len(house.rules()), len(house.promises()), len(house.deeds()[0])), (1, 1, 3))

    def test_steps_that_take_back_what_one_ahead_did(self):
        house = first_house()
        self.assertEqual(house.do([("put", B_A), ("take", B_A), ("lift", "a"), ("lay", "a", LONE), ("take", A_B), ("put", A_B)]), ([], []))
        self.assertEqual((house, house.count()), (first_house(), 2))
        self.assertEqual(house.do([("put", ("edge", "c", "c")), ("take", ("edge", "c", "c"))]), ([], []))
        self.assertEqual(house.do([("take", ("zz",)), ("put", A_B)]), ([], []))
        self.assertEqual(house.do([("release", "p"), ("put", ("edge", "c", "c")), ("take", ("edge", "c", "c")), ("promise", "p", NO_LOOP)]), ([], []))

    def test_promises_are_held_to_what_stands(self):
        house = first_house()
        with self.assertRaises(Broken) as caught:
            house.do([("promise", "n", NODES)])
        self.assertEqual((caught.exception.name, caught.exception.match), ("n", {"X": "a", "Y": "b"}))
        self.assertEqual(house.breaks(steps=[("promise", "n", NODES), ("put", ("edge", "z", "z")), ("put", ("edge", "c", "c"))]), [
            ("n", {"X": "a", "Y": "b"}), ("p", {"X": "c"})])
        self.assertEqual(house.breaks([]), [])
        self.assertEqual(kinds_of(house.breaks([("promise", "n", NODES)])), kinds_of([("n", {"X": "a", "Y": "b"})]))
        self.assertEqual(house.do([("put", ("node", "a")), ("put", ("node", "b")), ("promise", "n", NODES)])[1], [])
        self.assertEqual(house.breaks([("take", ("node", "b"))]), [("n", {"X": "b", "Y": "c"})])
        self.assertEqual(house.breaks([("take", ("node", "b")), ("put", ("gate", "c"))]), [])

    def test_refused_deeds_change_nothing(self):
        house = first_house()
        house.do([("put", B_A)])
        house.undo()
        kept, count, deeds = house.copy(), house.count(), house.deeds()
        ring = rules_of("s if not t", "t if s").listed()
        calls = [([("put", B_A), None], BadStep), ([("put", B_A), ("lay", "a", WAY)], TakenName), ([("watch", "w", WAY)], TakenName),
                 ([("promise", "p", NO_LOOP)], TakenName), ([("lift", "w")], NoName), ([("unwatch", "a")], NoName), ([("release", "a")], NoName),
                 ([("lift", "a"), ("lift", "a")], NoName), ([("lay", "z", WAY), ("lay", "z", WAY)], TakenName),
                 ([("lay", "z", (("way", "X"), (("edge", "X", "Y"),)))], Uneven), ([("lay", "s", ring[0]), ("lay", "t", ring[1])], RingThroughNot),
                 ([("put", ("edge", "q", "q"))], Broken)]
        for steps, error in calls:
            with self.assertRaises(error):
                house.do(steps)
            if error != Broken:
                with self.assertRaises(error):
                    house.breaks(steps)
            self.assertEqual((house, house.count(), house.deeds()), (kept, count, deeds))
        self.assertEqual(house.again()[0], [B_A, ("way", "a", "a"), ("way", "b", "a"), ("way", "b", "b")])

    def test_errors_and_their_order(self):
        house = first_house()
        for call in (house.do, house.breaks):
            for thing in NO_STEPS + odd_objects():
                with self.assertRaises(BadStep) as caught:
                    call([("lift", "zz"), ("put", A_B), thing, None])
                self.assertEqual(caught.exception.index, 2)
            for thing in (None, 3, "ab", {}, True, house, Facts([])):
                with self.assertRaises(BadStep) as caught:
                    call(thing)
                self.assertEqual(caught.exception.index, 0)
            with self.assertRaises(NoName) as caught:
                call([("lift", "zz"), ("watch", "w", GOES)])
            self.assertEqual(caught.exception.name, "zz")
            with self.assertRaises(TakenName) as caught:
                call([("watch", "w", GOES), ("lift", "zz")])
            self.assertEqual(caught.exception.name, "w")
            odd = (("way", "X"), (("edge", "X", "Y", "Z"), ("not", ("way", "X"))))
            with self.assertRaises(Uneven) as caught:
                call([("lay", "b", odd), ("put", ("edge", "q", "q"))])
            self.assertEqual((caught.exception.index, caught.exception.relation), (1, "way"))
            with self.assertRaises(Uneven) as caught:
                call([("lay", "z", (("top",), (("edge", "X"),)))])
            self.assertEqual((caught.exception.index, caught.exception.relation), (3, "edge"))
            ring = [(("edge2", "X"), (("node", "X"), ("not", ("edge3", "X")))), (("edge3", "X"), (("edge2", "X"),))]
            with self.assertRaises(RingThroughNot) as caught:
                call([("lay", "x", ring[0]), ("put", ("edge", "q", "q")), ("lay", "b", ring[1])])
            self.assertTrue(is_not_ring(Rules([LONE, ring[1], WAY, LONG, ring[0]]), caught.exception.ring))
        # What is lifted in the same deed is not uneven, watchers and promises are beside the rules, given facts too.
        house.do([("lift", "r1"), ("lift", "r2"), ("lift", "a"), ("lay", "z", (("way", "X"), (("edge", "X", "Y"),)))])
        house.do([("watch", "v", (("n",), (("way", "X", "Y"),))), ("promise", "v", ((("way", "X", "Y"),), ())), ("put", ("edge", "a"))])
        self.assertEqual(house.answers("v"), [])

    def test_equal_houses(self):
        house, other = first_house(), House()
        for step in (RULES + [("put", A_B), ("put", B_C), ("put", ("node", "c")), ("watch", "w", GOES), ("promise", "p", NO_LOOP)])[::-1]:
            other.do([step])
        self.assertEqual(house, other)
        for steps in ([("put", B_A)], [("lift", "a")], [("unwatch", "w")], [("release", "p")], [("lift", "a"), ("lay", "b", LONE)]):
            other = first_house()
            other.do(steps)
            self.assertNotEqual(house, other)
        for thing in odd_objects():
            self.assertNotEqual(house, thing)


class News(unittest.TestCase):
    def test_answers_and_news(self):
        house = first_house()
        self.assertEqual(house.answers("w"), [("goes", "a"), ("goes", "b")])
        self.assertEqual(house.news(name="w"), ([], []))
        house.do([("put", ("edge", "c", "d")), ("take", A_B)])
        self.assertEqual(house.answers(name="w"), [("goes", "b"), ("goes", "c")])
        self.assertEqual(house.news("w"), ([("goes", "c")], [("goes", "a")]))
        self.assertEqual(house.news("w"), ([], []))
        house.undo()
        self.assertEqual(house.news("w"), ([("goes", "a")], [("goes", "c")]))
        self.assertEqual(kinds_of(house.news("w")), kinds_of(([], [])))
        house.answers("w").clear()
        self.assertEqual(len(house.answers("w")), 2)
        for name in odd_objects() + ["r1", "p", "zz", ("w",), ["w"]]:
            for call in (house.answers, house.news):
                with self.assertRaises(NoName) as caught:
                    call(name)
                self.assertIs(caught.exception.name, name)

    def test_marks_are_made_by_deeds_that_tell_the_name(self):
        house = first_house()
        house.do([("put", ("edge", "c", "d"))])
        house.do([("unwatch", "w"), ("watch", "w", GOES)])
        self.assertEqual(house.news("w"), ([], []))
        house.do([("put", ("edge", "e", "f"))])
        house.undo()
        house.do([("put", ("edge", "e", "f"))])
        self.assertEqual(house.news("w"), ([("goes", "e")], []))
        house.do([("take", ("edge", "e", "f"))])
        house.do([("unwatch", "w")])
        self.assertRaises(NoName, house.news, "w")
        house.undo()
        # Taken back, the deed makes the answers behind it the mark.
        self.assertEqual(house.news("w"), ([], []))
        house.do([("put", ("edge", "g", "h")), ("watch", "v", GOES)])
        self.assertEqual((house.news("v"), house.news("w")), (([], []), ([("goes", "g")], [])))
        house.undo()
        self.assertRaises(NoName, house.news, "v")
        house.again()
        self.assertEqual((house.news("v"), house.news("w")), (([], []), ([], [])))

    def test_marks_stay_where_other_deeds_are_taken_back(self):
        house = first_house()
        house.do([("put", ("edge", "c", "d"))])
        house.do([("put", ("edge", "d", "f"))])
        self.assertEqual(house.news("w"), ([("goes", "c"), ("goes", "d")], []))
        house.undo()
        house.undo()
        house.again()
        self.assertEqual(house.news("w"), ([], [("goes", "d")]))


class Whys(unittest.TestCase):
    def test_why(self):
        house = first_house()
        self.assertEqual(house.why(("way", "a", "c")), (("way", "a", "c"), 2, ((A_B, None, ()), (("way", "b", "c"), 1, ((B_C, None, ()),)))))
        self.assertEqual(house.why(fact=["lone", "c"]), (("lone", "c"), 0, ((("node", "c"), None, ()),)))
        self.assertEqual(house.why(A_B), (A_B, None, ()))
        self.assertIsNone(house.why(("lone", "a")))
        house.do([("put", ("lone", "c"))])
        self.assertEqual(house.why(("lone", "c")), (("lone", "c"), None, ()))
        for call in (house.why, house.blocked):
            for thing in NO_FACTS + odd_objects()[:10]:
                with self.assertRaises(NoFact) as caught:
                    call(thing)
                self.assertIs(caught.exception.thing, thing)

    def test_blocked(self):
        house = first_house()
        house.do([("put", ("node", "a")), ("put", B_A), ("put", ("node", "b"))])
        self.assertEqual(house.blocked(("lone", "a")), [("a", {"X": "a"}, 1)])
        self.assertIsNone(house.blocked(("lone", "c")))
        self.assertEqual(house.blocked(fact=["lone", "z"]), [])
        self.assertEqual(house.blocked(("edge", "z", "z")), [])
        rule = (("off", "X"), (("not", ("edge", "Z", "X")), ("edge", "X", "Y"), ("not", ("node", "Y")), ("edge", "Y", "Z"), ("unlike", "X", "Z")))
        house.do([("lay", "b", rule)])
        told = house.blocked(("off", "a"))
        self.assertEqual(told, [("b", {"X": "a", "Y": "b", "Z": "c"}, 2)])
        self.assertEqual(list(told[0][1]), ["X", "Y", "Z"])
        self.assertEqual(kinds_of(told), kinds_of([("b", {"X": "a", "Y": "b", "Z": "c"}, 2)]))
        house.do([("put", ("edge", "c", "a"))])
        self.assertEqual(house.blocked(("off", "a")), [("b", {"X": "a", "Y": "b", "Z": "c"}, 0)])


class BackAndOn(unittest.TestCase):
    def test_undo_and_again(self):
        house = first_house()
        house.do([("put", B_A)])
        house.do([("take", B_C)])
        self.assertEqual(house.undo(), ([B_C, ("lone", "c"), ("way", "a", "c"), ("way", "b", "c")][:1] + [("way", "a", "c"), ("way", "b", "c")], []))
        self.assertEqual(house.undo(), ([], [B_A, ("way", "a", "a"), ("way", "b", "a"), ("way", "b", "b")]))
        self.assertEqual((house, house.count()), (first_house(), 1))
        self.assertEqual(house.again()[0][0], B_A)
        self.assertEqual(house.again()[1], [B_C, ("way", "a", "c"), ("way", "b", "c")])
        self.assertIsNone(house.again())
        house.undo()
        house.do([("put", ("node", "a"))])
        self.assertIsNone(house.again())
        self.assertEqual([deed for deed in house.deeds()[1:]], [[("put", B_A)], [("put", ("node", "a"))]])
        self.assertEqual(kinds_of(house.undo()), kinds_of(([], [("node", "a")])))

    def test_at(self):
        house = first_house()
        house.do([("put", ("edge", "c", "d"))])
        house.do([("unwatch", "w")])
        old = house.at(number=1)
        self.assertEqual((old, old.count(), old.deeds(), old.again()), (first_house(), 1, house.deeds()[:1], None))
        later = house.at(2)
        self.assertEqual((later.news("w"), later.count(), later.given()), (([], []), 2, house.given()))
        self.assertEqual(later.undo()[1], [("edge", "c", "d"), ("way", "a", "d"), ("way", "b", "d"), ("way", "c", "d")])
        self.assertEqual(later.news("w")[1], [("goes", "c")])
        self.assertEqual((house.count(), house.at(0), house.at(3), house.at(0).count()), (3, House(), house, 0))
        house.undo()
        for number in odd_objects() + [-1, 3, "1", (1,)]:
            with self.assertRaises(NoVersion) as caught:
                house.at(number)
            self.assertIs(caught.exception.number, number)

    def test_trials(self):
        house = first_house()
        house.do([("put", ("edge", "c", "d"))])
        house.do([("put", B_A)])
        house.undo()
        kept = house.copy()

        def inner(told):
            told.do([("put", ("edge", "x", "y"))])
            raise ValueError("out")

        def work(told):
            self.assertIs(told, house)
            self.assertEqual(told.news("w"), ([("goes", "c")], []))
            told.again()
            told.do([("unwatch", "w"), ("release", "p"), ("put", ("edge", "z", "z"))])
            count = told.count()
            self.assertRaises(ValueError, told.trial, inner)
            self.assertEqual((told.count(), told.trial(lambda one: (one.undo(), one.undo(), one.count())[2])), (count, count - 2))
            return [count, told.again()]

        self.assertEqual(house.trial(work), [4, None])
        self.assertEqual((house, house.count(), house.deeds()), (kept, 2, kept.deeds()))
        self.assertEqual(house.news("w"), ([("goes", "c")], []))
        with self.assertRaises(ValueError) as caught:
            house.trial(work=inner)
        self.assertEqual(str(caught.exception), "out")
        self.assertRaises(Broken, house.trial, lambda told: (told.do([]), told.do([("put", ("edge", "q", "q"))])))
        self.assertEqual((house.count(), house.news("w")), (2, ([], [])))
        self.assertEqual(house.again()[0][0], B_A)

    def test_copies(self):
        house = first_house()
        house.do([("put", ("edge", "c", "d"))])
        house.do([("put", B_A)])
        house.undo()
        other = house.copy()
        self.assertEqual((other, other.deeds(), other.count()), (house, house.deeds(), 2))
        self.assertEqual((other.news("w"), other.news("w"), house.news("w")), (([("goes", "c")], []), ([], []), ([("goes", "c")], [])))
        self.assertEqual(other.again()[0][0], B_A)
        other.do([("lift", "a")])
        self.assertEqual((house.count(), other.count(), house == other), (2, 4, False))
        self.assertEqual(house.again()[0][0], B_A)

    def test_against_the_words(self):
        seen = {}
        for seed in range(260):
            dice = Dice(seed)
            house, slow = House(), Slow()
            for _ in range(14):
                word = dice.random.choice(("do", "do", "do", "do", "undo", "again", "news", "trial"))
                told = self.turn(dice, house, slow, word)
                seen[told] = seen.get(told, 0) + 1
                self.check(house, slow, dice)
            number = dice.random.randint(0, len(slow.done))
            old = house.at(number)
            self.assertEqual(old.deeds(), [list(steps) for steps in slow.done[:number]])
            self.assertEqual(set(old.standing().listed()), slow.standing(slow.past[number]))
            self.assertTrue(all([old.news(name) == ([], []) for name in old.watchers()]))
        self.assertGreater(min([seen.get(word, 0) for word in (
            "done", "undone", "again", "news", "trial", TakenName, NoName, RingThroughNot, Broken)]), 9)

    def turn(self, dice, house, slow, word):
        """One call of the house, held to the words; returns what came of it."""
        now = slow.past[-1]
        if word == "do":
            steps = drawn_steps(dice, slow)
            later = slow.after(steps, now)
            broken = slow.broken(later) if isinstance(later, tuple) else []
            if not isinstance(later, tuple) or broken:
                error = Broken if broken else later
                with self.assertRaises(error) as caught:
                    house.do(steps)
                if broken:
                    self.assertEqual((caught.exception.name, caught.exception.match), broken[0])
                    self.assertEqual(house.breaks(steps), broken)
                else:
                    self.assertRaises(error, house.breaks, steps)
                return error
            self.assertEqual(house.breaks(steps), [])
            self.assertEqual(house.do(steps), change(slow.standing(now), slow.standing(later)))
            slow.past.append(later)
            slow.done.append(steps)
            slow.back = []
            slow.mark(steps)
            return "done"
        if word == "undo":
            if not slow.done:
                self.assertIsNone(house.undo())
                return "none"
            slow.back.append((slow.done.pop(), slow.past.pop()))
            self.assertEqual(house.undo(), change(slow.standing(now), slow.standing(slow.past[-1])))
            slow.mark(slow.back[-1][0])
            return "undone"
        if word == "again":
            if not slow.back:
                self.assertIsNone(house.again())
                return "none"
            steps, later = slow.back.pop()
            slow.done.append(steps)
            slow.past.append(later)
            self.assertEqual(house.again(), change(slow.standing(now), slow.standing(later)))
            slow.mark(steps)
            return "again"
        if word == "news":
            for name in now[2]:
                answers = slow.answers(now, name)
                self.assertEqual(house.news(name), change(set(slow.marks[name]), set(answers)))
                slow.marks[name] = answers
            return "news"
        house.trial(lambda told: [told.undo(), told.do([]), [told.news(name) for name in told.watchers()], told.undo(), told.undo()])
        return "trial"

    def check(self, house, slow, dice):
        given, rules, watchers, promises = now = slow.past[-1]
        self.assertEqual((house.rules(), house.watchers(), house.promises()), (rules, watchers, promises))
        self.assertEqual((list(house.rules()), list(house.watchers())), (sorted(rules), sorted(watchers)))
        self.assertEqual((house.count(), set(house.given().listed())), (len(slow.done), set(given)))
        standing = slow.standing(now)
        self.assertEqual(set(house.standing().listed()), standing)
        for name in watchers:
            self.assertEqual(house.answers(name), slow.answers(now, name))
        listed = [rules[name] for name in sorted(rules)]
        fact = dice.fact({"p": 1, "q": 2, "r": 1, "e": 2}, ["a", "b", 3])
        tree = house.why(fact)
        self.assertEqual(tree is None, fact not in standing)
        if tree:
            self.assertEqual(self.height(tree, listed, set(given), standing), slow_numbers(listed, given, standing)[fact])
            self.assertIsNone(house.blocked(fact))
            return
        found = []
        for name, (head, body) in sorted(rules.items()):
            plain = [part for part in body if part[0] != "not"]
            for match in brute.matches(standing, plain):
                if brute.put(head, match) == fact:
                    places = [at for at, part in enumerate(body) if part[0] == "not" and brute.put(part[1], match) in standing]
                    found.append((name, match, places[0]))
        found = sorted(found, key=lambda told: (told[0], [brute.term_rank(thing) for thing in told[1].values()]))
        self.assertEqual(house.blocked(fact), found)

    def height(self, tree, rules, given, standing):
        """The height of a tree, which must be right where nots are asked."""
        fact, number, trees = tree
        if number is None:
            self.assertIn(fact, given)
            self.assertEqual(trees, ())
            return 0
        head, body = rules[number]
        atoms = brute.plain(body)
        self.assertEqual(len(atoms), len(trees))
        calls = {}
        for atom, told in zip([head] + atoms, [fact] + [below[0] for below in trees]):
            self.assertEqual((atom[0], len(atom)), (told[0], len(told)))
            for term, thing in zip(atom[1:], told[1:]):
                self.assertEqual(calls.setdefault(term, thing) if brute.is_letter(term) else term, thing)
        self.assertTrue(all([brute.holds(part, calls, standing) for part in body]))
        return 1 + max([self.height(below, rules, given, standing) for below in trees], default=0)

    def test_at_the_limits(self):
        rules = rules_of("way X Y if edge X Y", "way X Z if edge X Y, way Y Z", "off X Y if node X, node Y, not way X Y, unlike X Y",
                         "both X Y if way X Y, way Y X", "lone X if node X, not both X X", "near X if edge X Y, edge Y Z, unlike X Z",
                         "far X Y if off X Y, off Y X", "end X if node X, not start X", "start X if edge X Y", "some if lone X, end X").listed()
        house = House()
        house.do([("lay", "r" + str(at), rule) for at, rule in enumerate(rules)] + [
            ("watch", "w" + str(at), rules[at]) for at in range(6)] + [
            ("promise", "p" + str(at), ((("edge", "X", "Y"), ("zz", at, "X")), (("node", "X"), ("node", "Y")))) for at in range(6)])
        for at in range(59):
            house.do([("put", ("node", at % 10)), ("put", ("edge", at % 9, at % 9 + 1))] + [("take", ("zz", other)) for other in range(38)])
        self.assertEqual(house.count(), 60)
        kept = Kept(Rules([house.rules()[name] for name in sorted(house.rules())]), house.given())
        self.assertEqual(kept.standing(), house.standing())
        tree = house.why(("way", 0, 9))
        depth = 0
        while tree:
            depth, tree = depth + 1, tree[2][-1] if tree[2] else None
        self.assertEqual(depth, kept.numbers()[("way", 0, 9)] + 1)
        self.assertEqual(len([house.undo() for _ in range(61)]), 61)
        self.assertEqual(house, House())
        self.assertEqual(len(house.blocked(("off", 1, 2))), 0)


if __name__ == "__main__":
    unittest.main()
