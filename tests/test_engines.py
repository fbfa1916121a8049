"""Points [130], [131], [137]: the engine at work, and what stands at each stop."""

import random
import unittest

from rulehouse.disks import Disk, after, come_back, settled
from rulehouse.engines import Engine
from rulehouse.errors import BadContents, BadNumber, Busy, Ended, HouseError, LogBehind, NoName, NoPage, NotOpen
from rulehouse.facts import Facts
from tests.odd import kinds_of, odd_objects
from tests.test_disks import NO_CONTENTS, NO_PAGES, content_of, fits, open_in, sets_of

NO_NAMES = ["T", "not", "", "a b", None, 3, True, ("t",), ["t"], {}, "x" * 13]


class Slow:
    """The engine by the words: records, how many came out, and pages that did."""

    def __init__(self, first):
        self.first = first
        self.records = []
        self.out = 0
        self.pages = {}

    def content(self, page):
        return content_of(self.first, self.records, page)

    def busy(self, page, name):
        others = [other for other in open_in(self.records) if other != name
                  and any([self.records[at][2] == page for at in sets_of(self.records, other)[0]])]
        return others[0] if others else None

    def number(self, page):
        return max([at + 1 for at, record in enumerate(self.records) if record[0] in ("set", "back") and record[2] == page], default=0)

    def drop(self, name):
        for at in sets_of(self.records, name)[0][::-1]:
            self.records.append(("back", at, self.records[at][2], self.records[at][3]))
        self.records.append(("over", name))

    def disk(self):
        told = self.records[:self.out]
        pages = {page: (0, self.first.get(page)) for page in list(self.first) + [record[2] for record in told if record[0] == "set"]}
        return Disk(self.first, {**pages, **self.pages}, told)


class Engines(unittest.TestCase):
    def test_at_work(self):
        engine = Engine(first={1: "a", 0: [1]})
        self.assertEqual((engine.content(0), engine.content(page=5), engine.open_ones(), engine.sealed()), ((1,), None, [], []))
        self.assertIsNone(engine.write("t", 0, [2, ["b"]]))
        self.assertIsNone(engine.write(dealing="s", page=7, content=None))
        self.assertEqual((engine.content(0), engine.open_ones()), ((2, ("b",)), ["s", "t"]))
        self.assertEqual(engine.disk(), Disk({0: (1,), 1: "a"}, {0: (0, (1,)), 1: (0, "a")}, []))
        self.assertEqual(engine.log_out(many=1), 1)
        self.assertIsNone(engine.page_out(page=0))
        self.assertEqual(engine.disk().pages(), {0: (1, (2, ("b",))), 1: (0, "a")})
        with self.assertRaises(LogBehind) as caught:
            engine.page_out(7)
        self.assertEqual(caught.exception.page, 7)
        self.assertIsNone(engine.seal("s"))
        self.assertEqual((engine.sealed(), engine.open_ones()), ([], ["t"]))
        self.assertEqual((engine.log_out(9), engine.log_out(3), engine.sealed()), (2, 0, ["s"]))
        self.assertEqual(engine.disk().pages(), {0: (1, (2, ("b",))), 1: (0, "a"), 7: (0, None)})
        self.assertIsNone(engine.drop(dealing="t"))
        self.assertEqual((engine.content(0), engine.open_ones()), ((1,), []))
        engine.log_out(1)
        self.assertEqual(engine.disk().log(), [("set", "t", 0, (1,), (2, ("b",))), ("set", "s", 7, None, None), ("seal", "s"),
                                               ("back", 0, 0, (1,))])
        engine.page_out(0)
        engine.page_out(9)
        self.assertEqual(engine.disk().pages(), {0: (4, (1,)), 1: (0, "a"), 7: (0, None), 9: (0, None)})
        self.assertEqual(kinds_of(engine.sealed()), kinds_of(["s"]))

    def test_drop_undoes_the_last_one_first(self):
        engine = Engine({})
        for page, content in ((0, 1), (1, 2), (0, 3)):
            engine.write("t", page, content)
        engine.write("u", 2, 4)
        engine.drop("t")
        self.assertEqual(engine.log_out(100), 8)
        self.assertEqual(engine.disk().log()[4:], [("back", 2, 0, 1), ("back", 1, 1, None), ("back", 0, 0, None), ("over", "t")])
        engine.write("u", 0, 5)
        self.assertEqual((engine.content(0), engine.open_ones()), (5, ["u"]))

    def test_errors(self):
        engine = Engine({0: 1})
        engine.write("t", 0, 2)
        engine.write("s", 1, 2)
        engine.write("o", 2, 2)
        engine.seal("s")
        engine.drop("o")
        for name in NO_NAMES + odd_objects():
            for call in (lambda told: engine.write(told, None, {}), engine.seal, engine.drop):
                with self.assertRaises(NoName) as caught:
                    call(name)
                self.assertIs(caught.exception.name, name)
        for name in ("s", "o"):
            with self.assertRaises(Ended) as caught:
                engine.write(name, None, {})
            self.assertEqual(caught.exception.name, name)
        for name in ("s", "o", "new"):
            for call in (engine.seal, engine.drop):
                with self.assertRaises(NotOpen) as caught:
                    call(name)
                self.assertEqual(caught.exception.name, name)
        for page in NO_PAGES + odd_objects():
            for call in (lambda told: engine.write("new", told, {}), engine.page_out, engine.content):
                with self.assertRaises(NoPage) as caught:
                    call(page)
                self.assertIs(caught.exception.page, page)
        for content in NO_CONTENTS:
            with self.assertRaises(BadContents) as caught:
                engine.write("new", 0, content)
            self.assertIs(caught.exception.thing, content)
        with self.assertRaises(Busy) as caught:
            engine.write("new", 0, 5)
        self.assertEqual((caught.exception.page, caught.exception.other), (0, "t"))
        for many in odd_objects() + [-1, "1", True]:
            with self.assertRaises(BadNumber) as caught:
                engine.log_out(many)
            self.assertIs(caught.exception.thing, many)
        self.assertEqual((engine.open_ones(), engine.content(0), engine.disk().log()), (["t"], 2, []))
        for thing in odd_objects() + [[(0, 1)]]:
            if not isinstance(thing, dict):
                with self.assertRaises(BadContents) as caught:
                    Engine(thing)
                self.assertIs(caught.exception.thing, thing)
        for page in NO_PAGES:
            with self.assertRaises(BadContents) as caught:
                Engine({5: 1, page: 1, 6: {}})
            self.assertIs(caught.exception.thing, page)
        for content in NO_CONTENTS:
            with self.assertRaises(BadContents) as caught:
                Engine({5: 1, 6: content, "A": 1})
            self.assertEqual(caught.exception.thing, 6)

    def test_what_is_handed_in_may_change(self):
        first, content = {0: ["a"]}, [1, [2]]
        engine = Engine(first)
        first[0].append("b")
        first[1] = 3
        engine.write("t", 1, content)
        content[1].append(5)
        self.assertEqual((engine.content(0), engine.content(1), engine.disk().first()), (("a",), (1, (2,)), {0: ("a",)}))
        self.assertIsInstance(engine.disk(), Disk)
        self.assertNotEqual(engine.disk(), Facts([]))

    def test_against_the_words(self):
        seals = 0
        for seed in range(300):
            dice = random.Random(seed)
            first = {page: dice.choice((None, 1, "a")) for page in range(3) if dice.random() < 0.5}
            engine, slow = Engine(first), Slow(first)
            for _ in range(dice.choice((10, 30, 60))):
                name, page = dice.choice("tuvwxyz"), dice.randint(0, 3)
                word = dice.choice(("write", "write", "write", "seal", "drop", "log", "log", "page"))
                ended = [record[1] for record in slow.records if record[0] in ("seal", "over")]
                if word == "write":
                    content = dice.choice((1, 2, "a", (1, "b"), None))
                    wanted = Ended if name in ended else Busy if slow.busy(page, name) else None
                    self.check(wanted, lambda: engine.write(name, page, content))
                    if wanted is None:
                        slow.records.append(("set", name, page, slow.content(page), content))
                elif word in ("seal", "drop"):
                    wanted = None if name in open_in(slow.records) else NotOpen
                    self.check(wanted, lambda: (engine.seal if word == "seal" else engine.drop)(name))
                    if wanted is None and word == "seal":
                        slow.records.append(("seal", name))
                    elif wanted is None:
                        slow.drop(name)
                elif word == "log":
                    many = min(dice.randint(0, 6), len(slow.records) - slow.out)
                    self.assertEqual(engine.log_out(many), many)
                    slow.out += many
                else:
                    wanted = LogBehind if slow.number(page) > slow.out else None
                    self.check(wanted, lambda: engine.page_out(page))
                    if wanted is None:
                        slow.pages[page] = (slow.number(page), slow.content(page))
                self.assertEqual([engine.content(page) for page in range(5)], [slow.content(page) for page in range(5)])
                self.assertEqual(engine.open_ones(), open_in(slow.records))
                disk = engine.disk()
                self.assertEqual(disk, slow.disk(), seed)
                sealed = [record[1] for record in disk.log() if record[0] == "seal"]
                self.assertEqual(engine.sealed(), sorted(sealed))
                self.check_settled(disk, sealed, first)
                seals += len(sealed)
            for at in range(len(slow.records)):
                self.assertTrue(fits(first, slow.records[:at], slow.records[at]))
        self.assertGreater(seals, 500)

    def check(self, wanted, call):
        if wanted is None:
            self.assertIsNone(call())
        else:
            self.assertRaises(wanted, call)

    def check_settled(self, disk, sealed, first):
        """What the sealed dealings made, in the order of their seals."""
        wanted = {page: first.get(page) for page in disk.pages()}
        for name in sealed:
            for record in disk.log():
                if record[0] == "set" and record[1] == name:
                    wanted[record[2]] = record[4]
        self.assertEqual(settled(disk), wanted)
        self.assertEqual(settled(after(disk, come_back(disk))), wanted)

    def test_errors_are_direct(self):
        for error in (Busy, Ended, LogBehind, NoName, NoPage, NotOpen):
            self.assertEqual(error.__bases__, (HouseError,))


if __name__ == "__main__":
    unittest.main()
