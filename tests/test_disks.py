"""Points [126] to [129], [137]: contents, logs, disks, what is settled, and coming back."""

import random
import unittest

from rulehouse.disks import Disk, after, come_back, settled
from rulehouse.errors import BadContents, BadPage, BadRecord, BadWrite
from rulehouse.facts import Facts
from tests.odd import kinds_of, odd_objects

NO_CONTENTS = [True, False, "", "Not", "not", "x" * 13, {}, {"a": 1}, (None,), (1, (None,)), ("a", True), ("A",), (1, {}), Facts([])]
NO_PAGES = [None, True, False, -1, "0", (0,), ("p", 1), ""]
SET = ("set", "t", 0, 1, 2)


def content_of(first, records, page):
    """What records make of a page."""
    found = first.get(page)
    for record in records:
        if record[0] in ("set", "back") and record[2] == page:
            found = record[-1]
    return found


def sets_of(records, name):
    """The indexes of the sets of a dealing, and those of them that are undone."""
    mine = [at for at, record in enumerate(records) if record[0] == "set" and record[1] == name]
    return mine, [record[1] for record in records if record[0] == "back" and record[1] in mine]


def open_in(records):
    ended = {record[1] for record in records if record[0] in ("seal", "over")}
    return sorted({record[1] for record in records if record[0] == "set"} - ended)


def fits(first, records, record):
    """By the words."""
    ended = {other[1] for other in records if other[0] in ("seal", "over")}
    word = record[0]
    if word == "set":
        _, name, page, before, _ = record
        others = [other for other in open_in(records) if other != name
                  and any([records[at][2] == page for at in sets_of(records, other)[0]])]
        return (name not in ended and not sets_of(records, name)[1] and before == content_of(first, records, page) and not others)
    if word == "back":
        for name in open_in(records):
            mine, undone = sets_of(records, name)
            left = [at for at in mine if at not in undone]
            if left and left[-1] == record[1]:
                return record[2:] == (records[record[1]][2], records[record[1]][3])
        return False
    if record[1] not in open_in(records):
        return False
    mine, undone = sets_of(records, record[1])
    return not undone if word == "seal" else len(undone) == len(mine)


def drawn_record(dice, first, records):
    """A record that perhaps fits."""
    word = dice.choice(("set", "set", "set", "back", "seal", "over"))
    name = dice.choice("tuv")
    page = dice.randint(0, 2)
    content = dice.choice((None, 1, "a", (1, "b"), ()))
    if word == "set":
        before = content_of(first, records, page) if dice.random() < 0.9 else content
        return ("set", name, page, before, content)
    if word == "back":
        sets = [at for at, record in enumerate(records) if record[0] == "set"]
        if not sets:
            return ("back", 0, page, content)
        at = dice.choice(sets)
        return ("back", at, records[at][2], records[at][3]) if dice.random() < 0.9 else ("back", at, page, content)
    return (word, name)


def drawn(seed, most=14):
    """First contents and records that fit."""
    dice = random.Random(seed)
    first = {page: dice.choice((None, 1, ("a", 2))) for page in range(3) if dice.random() < 0.6}
    records = []
    for _ in range(dice.randint(0, most)):
        record = drawn_record(dice, first, records)
        if fits(first, records, record):
            records.append(record)
    return dice, first, records


def all_pages(first, records):
    return sorted(set(first) | {record[2] for record in records if record[0] == "set"})


def drawn_disk(seed):
    dice, first, records = drawn(seed)
    pages = {}
    for page in all_pages(first, records) + ([7] if seed % 5 == 0 else []):
        stamp = dice.randint(0, len(records))
        pages[page] = (stamp, content_of(first, records[:stamp], page))
    return Disk(first, pages, records)


def slow_settled(disk):
    first, records = disk.first(), disk.log()
    found = {}
    for page in disk.pages():
        found[page] = content_of(first, records, page)
        for name in open_in(records):
            mine = [at for at in sets_of(records, name)[0] if records[at][2] == page]
            if mine:
                found[page] = records[mine[0]][3]
    return found


def slow_come_back(disk):
    first, records = disk.first(), disk.log()
    writes = []
    for page, (stamp, content) in disk.pages().items():
        numbers = [at + 1 for at, record in enumerate(records) if record[0] in ("set", "back") and record[2] == page]
        if numbers and stamp < numbers[-1]:
            writes.append(("page", page, numbers[-1], content_of(first, records, page)))
    for name in open_in(records):
        mine, undone = sets_of(records, name)
        if len(mine) == len(undone):
            records.append(("over", name))
            writes.append(("log", records[-1]))
    while True:
        left = [at for name in open_in(records) for at in sets_of(records, name)[0] if at not in sets_of(records, name)[1]]
        if not left:
            return writes
        _, name, page, before, _ = records[max(left)]
        records.append(("back", max(left), page, before))
        writes.append(("log", records[-1]))
        writes.append(("page", page, len(records), before))
        mine, undone = sets_of(records, name)
        if len(mine) == len(undone):
            records.append(("over", name))
            writes.append(("log", records[-1]))


class Disks(unittest.TestCase):
    def test_the_example(self):
        disk = Disk({0: 1}, {0: (1, 2)}, [SET])
        self.assertEqual(settled(disk), {0: 1})
        self.assertEqual(come_back(disk), [("log", ("back", 0, 0, 1)), ("page", 0, 2, 1), ("log", ("over", "t"))])
        behind = after(disk, come_back(disk))
        self.assertEqual((behind.pages(), behind.log(), behind.first()), ({0: (2, 1)}, [SET, ("back", 0, 0, 1), ("over", "t")], {0: 1}))
        self.assertEqual((come_back(behind), settled(behind)), ([], {0: 1}))
        self.assertEqual(kinds_of(come_back(disk)), kinds_of([("log", ("back", 0, 0, 1)), ("page", 0, 2, 1), ("log", ("over", "t"))]))

    def test_empty_logs(self):
        disk = Disk(first={}, pages={}, log=[])
        self.assertEqual((disk.first(), disk.pages(), disk.log(), settled(disk), come_back(disk)), ({}, {}, [], {}, []))
        self.assertEqual(after(disk, []), disk)
        self.assertEqual(after(disk=disk, writes=()), disk)

    def test_what_is_told(self):
        disk = Disk({2: ["a", [1]], 0: None}, {5: [0, None], 2: (0, ("a", (1,))), 0: [1, 3]}, [["set", "t", 0, None, 3]])
        self.assertEqual(list(disk.first().items()), [(0, None), (2, ("a", (1,)))])
        self.assertEqual(list(disk.pages().items()), [(0, (1, 3)), (2, (0, ("a", (1,)))), (5, (0, None))])
        self.assertEqual(disk.log(), [("set", "t", 0, None, 3)])
        self.assertEqual(kinds_of(list(disk.pages().items())), kinds_of([(0, (1, 3)), (2, (0, ("a", (1,)))), (5, (0, None))]))
        self.assertEqual(list(settled(disk).items()), [(0, None), (2, ("a", (1,))), (5, None)])
        for told in (disk.first(), disk.pages(), disk.log()):
            told.clear()
        self.assertEqual((len(disk.first()), len(disk.pages()), len(disk.log())), (2, 3, 1))
        self.assertEqual(disk, Disk(disk.first(), disk.pages(), tuple(disk.log())))
        for other in (Disk({2: ("a", (1,))}, disk.pages(), disk.log()), Disk(disk.first(), {**disk.pages(), 0: (0, None)}, disk.log()),
                      Disk(disk.first(), disk.pages(), disk.log() + [("seal", "t")]), None, 0, disk.pages(), Facts([])):
            self.assertNotEqual(disk, other)

    def test_bad_contents(self):
        for thing in odd_objects() + [[(0, 1)]]:
            if not isinstance(thing, dict):
                with self.assertRaises(BadContents) as caught:
                    Disk(thing, None, None)
                self.assertIs(caught.exception.thing, thing)
        for page in NO_PAGES:
            with self.assertRaises(BadContents) as caught:
                Disk({5: 0, page: 1, 6: {}}, None, None)
            self.assertIs(caught.exception.thing, page)
        for content in NO_CONTENTS:
            with self.assertRaises(BadContents) as caught:
                Disk({1: 0, 3: content, "A": None}, None, None)
            self.assertEqual(caught.exception.thing, 3)
        for content in (0, -5, "a", (), ((),), ((1, "a"), 3), None, 10 ** 17, ["a", [1]]):
            self.assertEqual(Disk({0: content}, {0: (0, content)}, []).first(), {0: Disk({0: content}, {0: (0, content)}, []).pages()[0][1]})

    def test_bad_records(self):
        back, seal, over = ("back", 0, 0, 1), ("seal", "t"), ("over", "t")
        two = ("set", "t", 1, None, "a")
        for thing in (None, 3, "ab", {}, Facts([])):
            with self.assertRaises(BadRecord) as caught:
                Disk({0: 1}, None, thing)
            self.assertEqual(caught.exception.index, 0)
        for thing in odd_objects() + [
                ("set", "t", 1, None), ("set", "t", 1, None, 1, 2), ("set", "T", 1, None, 1), ("set", "t", -1, None, 1), ("set", "t", True, None, 1),
                ("set", "t", 1, {}, 1), ("set", "t", 1, None, {}), ("set", "t", 1, 5, 1), ("set", "t", 0, 1, 3), ("set", "u", 0, 2, 3), ("back", 0, 0),
                ("back", -1, 0, 1), ("back", True, 0, 1), ("back", 0, 1, 1), ("back", 0, 0, 2), ("back", 1, 0, 1), ("back", 0, 0, True), ("seal", "u"), ("back", False, 0, 1),
                ("back", 0, False, 1), ("set", "t", False, 2, 3), ("set", "t", 0, None, 3), ("over", ["t"]), ("seal", ("t",)), ("over", True),
                ("over", "t"), ("seal",), ("seal", "t", 1), ("over", "u"), ("done", "t"), ("seal", None), ("back", "0", 0, 1), {0: "seal", 1: "t"}]:
            with self.assertRaises(BadRecord) as caught:
                Disk({0: 1}, None, [SET, thing, None])
            self.assertEqual(caught.exception.index, 1, thing)
        for rows in ([SET, seal, ("set", "t", 1, None, 1)], [SET, back, over, ("set", "t", 1, None, 1)], [SET, back, ("set", "t", 1, None, 1)],
                     [SET, back, seal], [SET, two, back], [SET, two, ("back", 1, 1, None), over], [SET, seal, back], [SET, seal, seal],
                     [SET, back, back], [SET, back, ("set", "u", 0, 1, 2)], [SET, two, ("set", "u", 1, "a", 2)], [SET, back, over, over],
                     [SET, ("set", "t", 0, 2, 1), back], [SET, two, ("back", 1, 1, None), ("set", "u", 1, None, 2)]):
            with self.assertRaises(BadRecord) as caught:
                Disk({0: 1}, None, rows)
            self.assertEqual(caught.exception.index, len(rows) - 1, rows)
        for rows in ([SET, seal, ("set", "u", 0, 2, 3)], [SET, back, over, ("set", "u", 0, 1, 3)], [SET, two, ("back", 1, 1, None), back, over],
                     [SET, ("set", "u", 1, None, 3), ("set", "t", 0, 2, 2)]):
            with self.assertRaises(BadPage):
                Disk({0: 1}, {}, rows)

    def test_truths_are_no_contents(self):
        for record in (("set", "t", 0, True, 2), ("set", "t", 0, 1, True), ("set", "t", 0, (True,), 2), ("set", "t", 0, 1, ((False,),))):
            with self.assertRaises(BadRecord) as caught:
                Disk({0: 1}, {0: (0, 1)}, [record])
            self.assertEqual(caught.exception.index, 0)
        with self.assertRaises(BadWrite):
            after(Disk({0: 1}, {0: (0, 1)}, []), [("page", 0, 0, True)])

    def test_bad_pages(self):
        for thing in (None, 3, "ab", [], ((0, 1),), Facts([])):
            with self.assertRaises(BadPage) as caught:
                Disk({0: 1}, thing, [SET])
            self.assertIs(caught.exception.thing, thing)
        for page in NO_PAGES:
            with self.assertRaises(BadPage) as caught:
                Disk({0: 1}, {5: (0, None), page: (0, None), 6: None}, [SET])
            self.assertIs(caught.exception.thing, page)
        for pair in odd_objects() + [(0, 2), (1, 1), (2, 2), (-1, 1), (True, 2), (0,), (0, 1, 1), {0: 0, 1: 1}, ("0", 1), (None, 1), (0, True), 1]:
            with self.assertRaises(BadPage) as caught:
                Disk({0: 1}, {1: (0, None), 0: pair, "A": 0}, [SET])
            self.assertEqual(caught.exception.thing, 0)
        with self.assertRaises(BadPage) as caught:
            Disk({4: 1, 3: 2}, {4: (0, 1), 1: (0, None)}, [("set", "t", 2, None, 1)])
        self.assertEqual(caught.exception.thing, 2)
        self.assertEqual(Disk({0: 1}, {0: [0, 1], 9: (1, None)}, [SET]).pages(), {0: (0, 1), 9: (1, None)})

    def test_records_against_the_words(self):
        wrong = 0
        for seed in range(1500):
            dice, first, records = drawn(seed)
            pages = {page: (0, first.get(page)) for page in range(3)}
            self.assertEqual(Disk(first, pages, records).log(), records)
            record = drawn_record(dice, first, records)
            if fits(first, records, record):
                self.assertEqual(Disk(first, pages, records + [record]).log(), records + [record])
            else:
                wrong += 1
                with self.assertRaises(BadRecord) as caught:
                    Disk(first, pages, records + [record, None])
                self.assertEqual(caught.exception.index, len(records))
        self.assertGreater(wrong, 300)


class ComingBack(unittest.TestCase):
    def test_against_the_words(self):
        many = 0
        for seed in range(1200):
            disk = drawn_disk(seed)
            self.assertEqual(list(settled(disk).items()), list(slow_settled(disk).items()))
            writes = come_back(disk)
            self.assertEqual(writes, slow_come_back(disk))
            many += len(writes) > 3
        self.assertGreater(many, 300)

    def test_each_stop_within_coming_back(self):
        for seed in range(400):
            disk = drawn_disk(seed)
            wanted = settled(disk)
            writes = come_back(disk)
            for many in range(len(writes) + 1):
                stopped = after(disk, writes[:many])
                again = come_back(stopped)
                twice = after(stopped, again[:seed % (len(again) + 1)])
                for last in (after(stopped, again), after(twice, come_back(twice))):
                    self.assertEqual((settled(last), come_back(last)), (wanted, []))
                    self.assertEqual({page: content for page, (stamp, content) in last.pages().items()}, wanted)
                    self.assertEqual(open_in(last.log()), [])
                    backs = [record[1] for record in last.log() if record[0] == "back"]
                    self.assertEqual(len(backs), len(set(backs)))

    def test_writes(self):
        disk = Disk({0: 1}, {0: (0, 1)}, [SET])
        behind = after(disk, [["page", 0, 1, 2], ["log", ["seal", "t"]], ("page", 3, 1, None), ("page", 0, 0, 1), ("page", 0, 1, 2)])
        self.assertEqual((behind.pages(), behind.log()), ({0: (1, 2), 3: (1, None)}, [SET, ("seal", "t")]))
        self.assertEqual((disk.pages(), disk.log()), ({0: (0, 1)}, [SET]))
        self.assertEqual(after(disk, [("page", 1, 0, None), ("log", ("set", "t", 1, None, 5))]).pages(), {0: (0, 1), 1: (0, None)})
        for thing in odd_objects() + [
                ("page", 0, 2, 2), ("page", 0, 1, 1), ("page", 0, 1), ("page", 0, 1, 2, 3), ("page", -1, 0, None), ("page", True, 0, None),
                ("page", 0, True, 2), ("page", 5, 0, 1), ("log", ("seal", "u")), ("log", ("over", "t")), ("log",), ("log", None), ("log", SET),
                ("log", ("back", 0, 0, 2)), ("log", ("seal", "t"), 1), ("seal", "t"), SET, "page", ("write", 0, 1, 2), {0: "log", 1: ("seal", "t")}]:
            with self.assertRaises(BadWrite) as caught:
                after(disk, [("page", 0, 1, 2), thing, None])
            self.assertEqual(caught.exception.index, 1, thing)
        for thing in (None, 3, "ab", {}, disk):
            with self.assertRaises(BadWrite) as caught:
                after(disk, thing)
            self.assertEqual(caught.exception.index, 0)

    def test_at_the_limits(self):
        first = {page: ("n", page) for page in range(12)}
        records = []
        for at in range(36):
            name = "abcd"[at % 4]
            page = at % 12
            records.append(("set", name, page, content_of(first, records, page), (name, at)))
        records += [("seal", "a"), ("back", 35, 11, records[35][3]), ("seal", "b"), ("back", 31, 7, records[31][3])]
        disk = Disk(first, {page: (0, first[page]) for page in first}, records)
        writes = come_back(disk)
        self.assertEqual(writes, slow_come_back(disk))
        self.assertEqual(settled(after(disk, writes)), slow_settled(disk))


if __name__ == "__main__":
    unittest.main()
