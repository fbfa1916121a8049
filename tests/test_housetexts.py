"""Points [146], [147]: texts of promises, houses and deeds."""

import unittest

from rulehouse.errors import BadLine, BadPromise, BadText, Broken, HouseError, RingThroughNot, Uneven
from rulehouse.facts import Facts
from rulehouse.houses import House
from rulehouse.housetexts import promise_in, promise_line, read_deeds, read_house, write_deeds, write_house
from tests.brute import Dice
from tests.odd import kinds_of, odd_objects
from tests.test_houses import A_B, GOES, LONE, NO_LOOP, Slow, drawn_steps, first_house
from tests.test_promises import drawn_promise

HOUSE = """rule a lone X if node X, not way X X
rule r1 way X Y if edge X Y
rule r2 way X Z if edge X Y, way Y Z
watch w goes X if way X Y
promise p edge X X =>
fact edge a b
fact edge b c
fact node c
"""
DEEDS = """lay r1 way X Y if edge X Y
lay r2 way X Z if edge X Y, way Y Z
lay a lone X if node X, not way X X
put edge a b
put edge b c
put node c
watch w goes X if way X Y
promise p edge X X =>
done
"""
LINES = {
    "edge X Y => node X | node Y": ((("edge", "X", "Y"),), (("node", "X"), ("node", "Y"))), "edge X X =>": NO_LOOP,
    " =>": ((), ()), " => top": ((), (("top",),)), "p, q X, not r X 1, unlike X -5 => p": (
        (("p",), ("q", "X"), ("not", ("r", "X", 1)), ("unlike", "X", -5)), (("p",),)),
    "p X => q Y | q X | q X": ((("p", "X"),), (("q", "Y"), ("q", "X"), ("q", "X")))}
NO_LINES = ["", "=>", "edge X X", "edge X X=>", "edge X X => ", "edge X X =>  ", "edge X X  =>", " edge X X =>", "edge X X => node X|node Y",
            "edge X X => node X | ", "edge X X => | node X", "edge X X => not node X", "edge X X => unlike X 1", "edge X X => node X => node X",
            "edge X X => => node X", "edge X X, => node X", "edge X X =>\n", "Edge X X =>", "edge X X => node  X", "edge X X => node X |  node Y",
            "edge X X => node X, node Y", "edge 01 X =>", "edge X X >=", "edge X X =>node X", "edge X X => if", "p => q =>"]


class Promising(unittest.TestCase):
    def test_lines(self):
        for line, promise in LINES.items():
            self.assertEqual(promise_line(promise), line)
            self.assertEqual(promise_line(promise=[[list(part) for part in promise[0]], [list(way) for way in promise[1]]]), line)
            self.assertEqual(promise_in(line=line), promise)
            self.assertEqual(kinds_of(promise_in(line)), kinds_of(promise))
        for thing in NO_LINES + odd_objects() + [3, ["p =>"], NO_LOOP]:
            with self.assertRaises(BadText) as caught:
                promise_in(thing)
            self.assertIs(caught.exception.line, thing)
        for thing in [thing for thing in odd_objects()] + ["p =>", NO_LOOP[:1], NO_LOOP + ((),), (NO_LOOP[0], NO_LOOP[0][0]), {0: (), 1: ()},
                                                           (NO_LOOP[0], (("not", ("p",)),)), (NO_LOOP[0], (("unlike", 1, 2),)), (None, ()), ((), None)]:
            with self.assertRaises(BadPromise) as caught:
                promise_line(thing)
            self.assertEqual(caught.exception.index, 0)

    def test_drawn(self):
        for seed in range(400):
            promise = drawn_promise(Dice(seed), {"p": 1, "q": 2, "r": 0}, ["X", "Y", "A12"], ["a", -3, 10 ** 17])
            self.assertEqual(promise_in(promise_line(promise)), promise)


class HouseTexts(unittest.TestCase):
    def test_write_and_read(self):
        self.assertEqual(write_house(house=first_house()), HOUSE)
        house = read_house(text=HOUSE)
        self.assertEqual((house, house.count(), house.deeds(), house.news("w")), (first_house(), 0, [], ([], [])))
        self.assertEqual((house.undo(), house.again(), house.at(0) == house), (None, None, True))
        house.do([("put", ("edge", "c", "d"))])
        self.assertEqual(house.news("w"), ([("goes", "c")], []))
        house.undo()
        self.assertEqual(house, first_house())
        self.assertEqual((write_house(House()), read_house("")), ("", House()))
        self.assertEqual(kinds_of(house.rules()["a"]), kinds_of(LONE))

    def test_bad_lines(self):
        lines = HOUSE.split("\n")[:-1]
        for thing in odd_objects() + [3, lines, b"rule"]:
            if not isinstance(thing, str):
                with self.assertRaises(BadLine) as caught:
                    read_house(thing)
                self.assertEqual(caught.exception.index, 0)
        wrong = ["", " ", "rule", "rule b", "rule b ", "rule  b p", "rule B p X if q X", "rule not p", "rule b p X", "rule b p X if not q X", "rule b p 1 if p 1 2",
                 "rule b p X if q X ", "rule b p X if q X, ", " rule b p", "Rule b p", "lay b p", "rule a p", "rule a2 p, q", "rule r0 p\r"]
        for line in wrong:
            with self.assertRaises(BadLine) as caught:
                read_house("\n".join(lines[:1] + [line] + lines[1:2]) + "\n" + "bad\n")
            self.assertEqual(caught.exception.index, 1, line)
        for at, line in ((3, "rule r2 p"), (3, "rule r1 p"), (4, "watch w p"), (4, "rule z p"), (4, "watch v p"), (4, "watch z p X"),
                         (5, "promise p p =>"), (5, "promise o p =>"), (5, "promise z p X => q Y"), (5, "promise z p, p X =>"), (5, "promise z"),
                         (5, "promise z p"), (5, "watch z p"), (6, "fact edge a b"), (6, "fact edge a a"), (6, "fact edge a"), (6, "fact"),
                         (6, "fact edge X b"), (6, "fact edge a b 01"), (6, "promise z p =>"), (6, "put edge a z"), (6, "fact zz, yy"),
                         (6, "fact not p"), (6, "fact  p"), (8, "fact node b"), (8, "rule z p"), (8, "done")):
            with self.assertRaises(BadLine) as caught:
                read_house("\n".join(lines[:at] + [line] + lines[at:]) + "\n")
            self.assertEqual(caught.exception.index, at, line)
        for at, line in ((0, "rule Z"), (8, "rule z"), (8, "fact x")):
            with self.assertRaises(BadLine) as caught:
                read_house("\n".join(lines[:at] + [line]))
            self.assertEqual(caught.exception.index, at)
        with self.assertRaises(BadLine) as caught:
            read_house(HOUSE + "\n")
        self.assertEqual(caught.exception.index, 8)
        with self.assertRaises(BadLine) as caught:
            read_house(HOUSE[:-1])
        self.assertEqual(caught.exception.index, 7)

    def test_houses_that_can_not_be(self):
        with self.assertRaises(Uneven) as caught:
            read_house("rule a p if q\nrule b s if t, not s\nrule c q X if r X\nfact e 1\n")
        self.assertEqual((caught.exception.index, caught.exception.relation), (2, "q"))
        with self.assertRaises(RingThroughNot) as caught:
            read_house("rule a p if not p\npromise b e 1 =>\nfact e 1\n")
        self.assertEqual(caught.exception.ring, [(0, 0)])
        with self.assertRaises(Broken) as caught:
            read_house("rule b p X if e X\npromise a e X => e X\npromise b p X => q X\npromise c p X =>\nfact e 1\nfact e 2\nfact q 1\n")
        self.assertEqual((caught.exception.name, caught.exception.match), ("b", {"X": 2}))

    def test_facts_in_order(self):
        text = "fact e -2\nfact e 10\nfact e a\nfact e 1 1\nfact f\n"
        self.assertEqual(write_house(read_house(text)), text)
        self.assertEqual(read_house(text).given(), Facts([("f",), ("e", 1, 1), ("e", "a"), ("e", 10), ("e", -2)]))


class DeedTexts(unittest.TestCase):
    def test_write_and_read(self):
        self.assertEqual(write_deeds(first_house()), DEEDS)
        house = read_deeds(text=DEEDS)
        self.assertEqual((house, house.deeds(), house.count()), (first_house(), first_house().deeds(), 1))
        self.assertEqual((write_deeds(House()), read_deeds("").count()), ("", 0))
        house = first_house()
        house.do([])
        house.do([("take", A_B), ("lift", "a"), ("unwatch", "w"), ("release", "p")])
        house.do([("promise", "q", ((), ())), ("release", "q")])
        house.do([("put", ("zz",))])
        house.undo()
        text = DEEDS + "done\ntake edge a b\nlift a\nunwatch w\nrelease p\ndone\npromise q  =>\nrelease q\ndone\n"
        self.assertEqual(write_deeds(house=house), text)
        self.assertEqual(read_deeds(text).deeds(), house.deeds())

    def test_news_are_those_of_the_deeds(self):
        house = read_deeds("watch w goes X if way X Y\ndone\nput way a b\ndone\n")
        self.assertEqual((house.news("w"), house.watchers()), (([("goes", "a")], []), {"w": GOES}))

    def test_bad_lines(self):
        for thing in odd_objects() + [3, [DEEDS]]:
            if not isinstance(thing, str):
                with self.assertRaises(BadLine) as caught:
                    read_deeds(thing)
                self.assertEqual(caught.exception.index, 0)
        for line in ("", "put", "put edge a X", "put  edge a b", "put edge a b ", "give edge a b", "take not p", "lay r", "lay r p X", "lay R p",
                     "lay r p X if q X, not r Y", "lift", "lift R", "lift r ", "lift r p", "watch w", "watch w p X", "unwatch", "promise p p", "promise p",
                     "promise p p X => q Y", "release", "release P", "done ", " done", "Done", "fact edge a b", "rule r p", "put edge a b, edge b c",
                     "lay r p 1 if p"):
            with self.assertRaises(BadLine) as caught:
                read_deeds("put zz\n" + line + "\nbad\n")
            self.assertEqual(caught.exception.index, 1, line)

    def test_refused_deeds_and_lacking_ends(self):
        for last in ("lift zz", "lay r1 p", "lay b way X if edge X Y", "lay c q if not q", "put edge c c", "promise q edge X Y =>", "watch w p",
                     "unwatch r1", "release w"):
            with self.assertRaises(BadLine) as caught:
                read_deeds(DEEDS + last + "\nput node x\ndone\nbad\n")
            self.assertEqual(caught.exception.index, 11)
        for text, index in ((DEEDS + "put node x\n", 10), (DEEDS + "put node x", 9), (DEEDS[:-1], 8), ("put node x\n", 1), ("put node x", 0), ("done", 0),
                            (DEEDS + "put node x\nput X\n", 10), (DEEDS + "bad\nlift zz\ndone\n", 9), ("\n", 0)):
            with self.assertRaises(BadLine) as caught:
                read_deeds(text)
            self.assertEqual(caught.exception.index, index, text)

    def test_each_beginning_of_the_deeds(self):
        many = 0
        for seed in range(250):
            dice, house, slow = Dice(seed), House(), Slow()
            for _ in range(8):
                try:
                    house.do(drawn_steps(dice, slow))
                except HouseError:
                    pass
            text = write_deeds(house)
            read = read_deeds(text)
            self.assertEqual((read, read.deeds()), (house, house.deeds()))
            self.assertEqual(read_house(write_house(house)), house)
            lines = text.split("\n")
            ends = [0] + [at + 1 for at, line in enumerate(lines) if line == "done"]
            self.assertEqual(len(ends), house.count() + 1)
            for number, end in enumerate(ends):
                beginning = "".join([line + "\n" for line in lines[:end]])
                self.assertEqual(read_deeds(beginning), house.at(number))
                self.assertEqual(write_deeds(house.at(number)), beginning)
                many += 1
        self.assertGreater(many, 600)

    def test_at_the_limits(self):
        lines = []
        for at in range(60):
            lines += ["put edge " + str(at % 20) + " " + str(at) for at in range(at % 20, at % 20 + 4)] + ["done"]
        text = "\n".join(["lay r way X Y if edge X Y, edge Y Z, not node X, unlike X Z"] + lines[:299]) + "\n"
        self.assertRaises(BadLine, read_deeds, text[:-5])
        house = read_deeds("\n".join(lines[:290]) + "\n")
        self.assertEqual((house.count(), write_deeds(house)), (58, "\n".join(lines[:290]) + "\n"))


if __name__ == "__main__":
    unittest.main()
