"""Points [135], [136], [137]: facts that dealings put and take, and what stands of them at each stop."""

import random
import unittest

from rulehouse.disks import Disk, after, come_back
from rulehouse.engines import Engine
from rulehouse.errors import BadNumber, BadWidth, Busy, Ended, LogBehind, NoFact, NoIndex, NoName, NoPage, NotOpen
from rulehouse.facts import Facts
from rulehouse.indexes import is_index, put_fact, take_fact
from rulehouse.stores import Store, facts_at
from tests.odd import kinds_of, odd_objects
from tests.test_disks import NO_PAGES
from tests.test_engines import NO_NAMES
from tests.test_following import NO_FACTS
from tests.test_indexes import NO_WIDTHS, fact_for

A, B, C, D, E, F = [("p", at) for at in range(6)]


class Stores(unittest.TestCase):
    def test_at_work(self):
        store = Store(width=3)
        self.assertEqual((store.facts(), store.contents(), store.open_ones(), store.sealed()), (Facts([]), {0: ("leaf",)}, [], []))
        self.assertEqual(store.disk(), Disk({0: ("leaf",)}, {0: (0, ("leaf",))}, []))
        self.assertIs(store.put("t", ["p", 1]), True)
        self.assertIs(store.put(dealing="t", fact=B), False)
        self.assertIs(store.take("u", A), False)
        self.assertEqual((store.open_ones(), store.contents(), store.facts()), (["t"], {0: ("leaf", B)}, Facts([B])))
        self.assertEqual((store.log_out(many=5), facts_at(store.disk(), 3)), (1, Facts([])))
        self.assertIsNone(store.page_out(page=0))
        self.assertIsNone(store.seal(dealing="t"))
        self.assertEqual((store.sealed(), store.log_out(1), store.sealed(), store.open_ones()), ([], 1, ["t"], []))
        self.assertEqual(facts_at(disk=store.disk(), width=3), Facts([B]))
        self.assertIs(store.take(dealing="u", fact=["p", 1]), True)
        self.assertEqual((store.facts(), facts_at(store.disk(), 8)), (Facts([]), Facts([B])))
        self.assertIsNone(store.drop("u"))
        self.assertEqual((store.facts(), store.contents()), (Facts([B]), {0: ("leaf", B)}))
        self.assertEqual(kinds_of(store.contents()), kinds_of({0: ("leaf", B)}))
        self.assertEqual(store.disk().log(), [("set", "t", 0, ("leaf",), ("leaf", B)), ("seal", "t")])

    def test_pages_are_set_in_order(self):
        store = Store(3)
        for fact in (A, B, C, D):
            store.put("t", fact)
        store.log_out(100)
        records = store.disk().log()
        self.assertEqual([record[2] for record in records], [0, 0, 0, 0, 1, 2])
        self.assertEqual(list(store.contents()), [0, 1, 2])
        store.seal("t")
        store.take("u", A)
        store.take("u", B)
        self.assertEqual(list(store.contents()), [0])

    def test_busy(self):
        store = Store(3)
        for fact in (A, B, C, D, E):
            store.put("t", fact)
        store.seal("t")
        self.assertEqual([len(node) - 1 for node in store.contents().values() if node[0] == "leaf"], [2, 3])
        self.assertTrue(store.put("u", ("p", -1)))
        kept = store.contents()
        for call, fact in ((store.put, ("p", -2)), (store.take, B)):
            with self.assertRaises(Busy) as caught:
                call("v", fact)
            self.assertEqual((caught.exception.other, kept[caught.exception.page][0]), ("u", "leaf"))
        # What changes nothing is not busy; what runs over needs the root, which is free.
        self.assertIs(store.put("v", ("p", -1)), False)
        self.assertIs(store.put("v", ("p", 9)), True)
        self.assertEqual(store.open_ones(), ["u", "v"])
        with self.assertRaises(Busy) as caught:
            store.put("u", ("p", -3))
        self.assertEqual((caught.exception.page, caught.exception.other), (0, "v"))
        store.drop("v")
        self.assertEqual(store.contents(), kept)
        self.assertIs(store.put("u", ("p", -3)), True)

    def test_errors(self):
        store = Store(3)
        store.put("t", A)
        store.put("s", A)
        store.seal("t")
        store.put("s", B)
        for call in (store.put, store.take):
            for name in NO_NAMES + odd_objects():
                with self.assertRaises(NoName) as caught:
                    call(name, None)
                self.assertIs(caught.exception.name, name)
            with self.assertRaises(Ended) as caught:
                call("t", None)
            self.assertEqual(caught.exception.name, "t")
            for thing in NO_FACTS + odd_objects()[:12]:
                with self.assertRaises(NoFact) as caught:
                    call("new", thing)
                self.assertIs(caught.exception.thing, thing)
        for call in (store.seal, store.drop):
            self.assertRaises(NoName, call, None)
            for name in ("t", "new"):
                with self.assertRaises(NotOpen) as caught:
                    call(name)
                self.assertEqual(caught.exception.name, name)
        for thing in odd_objects() + [-1]:
            self.assertRaises(BadNumber, store.log_out, thing)
        for thing in NO_PAGES:
            self.assertRaises(NoPage, store.page_out, thing)
        self.assertRaises(LogBehind, store.page_out, 0)
        self.assertEqual((store.facts(), store.open_ones()), (Facts([A, B]), ["s"]))
        for width in NO_WIDTHS + odd_objects():
            for call in (Store, lambda told: facts_at(store.disk(), told)):
                with self.assertRaises(BadWidth) as caught:
                    call(width)
                self.assertIs(caught.exception.width, width)
        engine = Engine({0: ("leaf", A), 3: 5})
        engine.write("t", 0, ("leaf", B))
        with self.assertRaises(NoIndex) as caught:
            facts_at(engine.disk(), 3)
        self.assertEqual(caught.exception.contents, {0: ("leaf", A), 3: 5})

    def test_each_stop(self):
        full, busy = 0, 0
        for seed in range(110):
            dice = random.Random(seed)
            width = 3 + seed % 6
            store, works, seals = Store(width), {}, []
            for step in range(100):
                name = "t" + str(dice.randint(step // 12, step // 12 + 3))
                word = dice.choice(("put", "put", "put", "put", "take", "take", "seal", "seal", "drop", "log", "log", "page"))
                fact = fact_for(dice, seed)
                busy += self.do(store, word, name, fact, width, works, seals, dice)
                disk = store.disk()
                sealed = [told for told in seals if told in store.sealed()]
                wanted = set()
                for told in sealed:
                    for is_put, one in works[told]:
                        wanted = wanted | {one} if is_put else wanted - {one}
                self.assertEqual(facts_at(disk, width), Facts(sorted(wanted, key=str)), seed)
                full += len(wanted) > 8
                if step % 10 == 0:
                    writes = come_back(disk)
                    stopped = after(disk, writes[:dice.randint(0, len(writes))])
                    self.assertEqual(facts_at(after(stopped, come_back(stopped)), width), Facts(sorted(wanted, key=str)))
        self.assertGreater(min(full, busy), 30)

    def do(self, store, word, name, fact, width, works, seals, dice):
        """Does one thing, held to put_fact and take_fact; returns whether it was busy."""
        if word in ("put", "take") and name not in seals and name not in works.get("over", []):
            contents = store.contents()
            told = (put_fact if word == "put" else take_fact)(contents, width, fact)
            try:
                self.assertIs((store.put if word == "put" else store.take)(name, fact), told != {})
            except Busy as error:
                self.assertIn(error.page, told)
                self.assertEqual(store.contents(), contents)
                self.assertIn(error.other, store.open_ones())
                return True
            self.assertEqual(store.contents(), {page: node for page, node in sorted({**contents, **told}.items()) if node is not None})
            self.assertTrue(is_index(store.contents(), width))
            if told:
                works.setdefault(name, []).append((word == "put", fact))
        elif word in ("seal", "drop") and name in store.open_ones():
            (store.seal if word == "seal" else store.drop)(name)
            if word == "seal":
                seals.append(name)
            else:
                works.setdefault("over", []).append(name)
        elif word == "log":
            store.log_out(dice.randint(0, 8))
        elif word == "page":
            try:
                store.page_out(dice.randint(0, 9))
            except LogBehind:
                return False
        return False


if __name__ == "__main__":
    unittest.main()
