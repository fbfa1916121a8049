"""Points [132], [133], [134], [137]: index trees, and facts put and taken there."""

import random
import unittest

from rulehouse.errors import BadWidth, NoFact, NoIndex
from rulehouse.facts import Facts
from rulehouse.indexes import facts_on, is_index, put_fact, take_fact
from tests import brute
from tests.odd import facts_of, kinds_of, odd_objects
from tests.test_disks import NO_CONTENTS, NO_PAGES
from tests.test_following import NO_FACTS

EMPTY = {0: ("leaf",)}
A, B, C, D, E, F = [("p", at) for at in range(6)]
TWO = {0: ("fork", 1, C, 2), 1: ("leaf", A, B), 2: ("leaf", C, D)}
NO_WIDTHS = [2, 0, -3, True, None, "3", (3,), [], {}, ""]


def below(contents, page):
    """The facts below a page."""
    node = contents[page]
    if node[0] == "leaf":
        return list(node[1:])
    return [fact for other in node[1::2] for fact in below(contents, other)]


def depths(contents, page):
    node = contents[page]
    return {0} if node[0] == "leaf" else {1 + many for other in node[1::2] for many in depths(contents, other)}


def is_ordered(facts):
    ranks = [brute.atom_rank(fact) for fact in facts]
    return all([one < other for one, other in zip(ranks, ranks[1:])])


def slow_is_index(contents, width):
    """By the words, of a dict from pages to nodes and Nones."""
    led = [page for node in contents.values() if node and node[0] == "fork" for page in node[1::2]]
    nodes = {page: node for page, node in contents.items() if node is not None}
    if 0 not in nodes or 0 in led or len(set(led)) < len(led) or set(nodes) != {0} | set(led):
        return False
    reached, left = {0}, [0]
    while left:
        node = nodes[left.pop()]
        left.extend(node[1::2] if node[0] == "fork" else [])
        reached |= set(left)
    if reached != set(nodes) or len(depths(contents, 0)) > 1:
        return False
    for page, node in nodes.items():
        size = len(node) - 1 if node[0] == "leaf" else len(node) // 2
        if size > width or (page and size < -(-width // 2)) or (page == 0 and node[0] == "fork" and size < 2):
            return False
        if node[0] == "leaf" and not is_ordered(node[1:]):
            return False
        for at in range(2, len(node), 2) if node[0] == "fork" else ():
            rank = brute.atom_rank(node[at])
            if any([brute.atom_rank(fact) >= rank for fact in below(contents, node[at - 1])]):
                return False
            if any([brute.atom_rank(fact) < rank for fact in below(contents, node[at + 1])]):
                return False
    return True


def ranges(contents, page=0, low=None, high=None):
    """The dict from leaves to the last fact of a fork above ahead of them, and the first one behind them."""
    node = contents[page]
    if node[0] == "leaf":
        return {page: (low, high)}
    facts = list(node[2::2])
    found = {}
    for other, one, two in zip(node[1::2], [low] + facts, facts + [high]):
        found.update(ranges(contents, other, one, two))
    return found


def fact_for(dice, seed):
    return ("p", dice.randint(0, 40)) if seed % 2 else (dice.choice(("p", "q")), dice.choice((1, 2, "a", "b", 10)), dice.choice(("c", -1, 3, "d", 5)))


class Indexes(unittest.TestCase):
    def test_is_index(self):
        for contents, width in ((EMPTY, 3), (TWO, 3), (TWO, 4), ({**TWO, 9: None}, 3), ({0: ("leaf", A, B, C)}, 3), ({0: ["leaf", list(A)]}, 3),
                                ({0: ["fork", 1, ["p", 2], 2], 1: ("leaf", A, list(B)), 2: ["leaf", C, D]}, 3),
                                ({**TWO, 0: ("fork", 1, ("p", "zz"), 2), 2: ("leaf", ("p", "zz"), ("q",))}, 3)):
            self.assertIs(is_index(contents, width), True, contents)
            self.assertIs(is_index(contents=contents, width=width), True)
        for wrong in ({}, {0: None}, {1: ("leaf",)}, {0: ("leaf", B, A)}, {0: ("leaf", A, A)}, {0: ("leaf", A, B, C, D)}, {0: ("leaf", None)},
                      {0: ("leaf", ("p", "X"))}, {0: ("leaf", "p")}, {0: "leaf"}, {0: ()}, {0: ("fork",)}, {0: ("fork", 1), 1: ("leaf", A, B)},
                      {**TWO, 0: ("fork", 1, D, 2)}, {**TWO, 0: ("fork", 1, B, 2)}, {**TWO, 0: ("fork", 1, C, 3)}, {**TWO, 3: ("leaf",)},
                      {**TWO, 3: ("leaf", E, F)}, {**TWO, 3: 7}, {**TWO, 0: ("fork", 1, C, 1)}, {**TWO, 0: ("fork", 1, C, 0)},
                      {**TWO, 2: ("leaf", C)}, {**TWO, 2: ("leaf", C, D, E, F)}, {**TWO, 0: ("fork", 1, C, 2, E)}, {**TWO, 0: ("fork", 1, C)},
                      {**TWO, 0: ("fork", 1, ("p", "Y"), 2)}, {**TWO, 0: ("fork", "a", C, 2)}, {**TWO, 0: ("fork", -1, C, 2)},
                      {**TWO, 0: ("knot", 1, C, 2)}, {**TWO, 2: ("fork", 3, E, 4), 3: ("leaf", C, D), 4: ("leaf", E, F)},
                      {0: ("fork", 0, C, 0)}, {0: ("fork", 1, C, 2), 1: ("fork", 0, A, 2), 2: ("fork", 1, D, 0)}, {**TWO, 0: ("fork", 1, 5, 2)},
                      {**TWO, 0: ("fork", 1, "p", 2)}, {**TWO, 0: ("fork", 1, ("p", ("a",)), 2)}, {**TWO, 0: ("fork", 1, (), 2)},
                      {0: ("leaf", 1)}, {0: ("leaf", ())}, {0: ("leaf", ("p", ("a",)))}, {0: ("leaf", ("p",), "p")},
                      {**TWO, "a": None}, {**TWO, -1: None}, {**TWO, 5: {}}, {0: ("leaf", A), True: ("leaf",)}):
            self.assertIs(is_index(wrong, 3), False, wrong)
        for thing in odd_objects() + [[("leaf",)], (EMPTY,), facts_of("p 1")]:
            self.assertIs(is_index(thing, 3), False)
        for page in NO_PAGES:
            self.assertIs(is_index({**TWO, page: None} if page not in (0, 1) else {5: None, page: ("leaf",)}, 3), False)
        for content in NO_CONTENTS:
            self.assertIs(is_index({**TWO, 5: content}, 3), False)

    def test_facts_on(self):
        self.assertEqual(facts_on(TWO, 3), Facts([A, B, C, D]))
        self.assertEqual(facts_on(contents={0: ["leaf", list(B)]}, width=8), Facts([B]))
        self.assertEqual(facts_on(EMPTY, 3), Facts([]))

    def test_errors(self):
        calls = [is_index, facts_on, lambda *told: put_fact(*told, None), lambda *told: take_fact(*told, None)]
        for call in calls:
            for width in NO_WIDTHS + odd_objects():
                with self.assertRaises(BadWidth) as caught:
                    call(None, width)
                self.assertIs(caught.exception.width, width)
        for call in calls[1:]:
            for thing in odd_objects() + [{}, {0: None}, {**TWO, 3: 7}, {0: ("leaf", A, B, C, D)}]:
                with self.assertRaises(NoIndex) as caught:
                    call(thing, 3)
                self.assertIs(caught.exception.contents, thing)
        for call in (put_fact, take_fact):
            for thing in NO_FACTS + odd_objects()[:12]:
                with self.assertRaises(NoFact) as caught:
                    call(TWO, 3, thing)
                self.assertIs(caught.exception.thing, thing)

    def test_put_and_take(self):
        self.assertEqual(put_fact(EMPTY, 3, A), {0: ("leaf", A)})
        self.assertEqual(put_fact(contents={0: ["leaf", list(A)]}, width=3, fact=list(A)), {})
        self.assertEqual(take_fact(contents=TWO, width=3, fact=["p", 9]), {})
        self.assertEqual(take_fact({0: ("leaf", A)}, 3, A), {0: ("leaf",)})
        told = put_fact({0: ("leaf", A, B, C), 2: None}, 3, D)
        self.assertEqual(sorted(told), [0, 1, 2])
        self.assertEqual(take_fact(TWO, 3, B), {0: ("leaf", A, C, D), 1: None, 2: None})
        self.assertEqual(put_fact(TWO, 3, E), {2: ("leaf", C, D, E)})
        self.assertEqual(list(put_fact({**TWO, 2: ("leaf", C, D, E)}, 3, F)), [0, 2, 3])
        self.assertEqual(kinds_of(put_fact(EMPTY, 3, ["p", 1])), kinds_of({0: ("leaf", B)}))
        contents = {**TWO}
        take_fact(contents, 3, A)
        self.assertEqual(contents, TWO)

    def test_many_puts_and_takes(self):
        deep, halves = 0, 0
        for seed in range(160):
            dice = random.Random(seed)
            width = 3 + seed % 6
            contents, facts = {0: ("leaf",)}, set()
            for step in range(90):
                fact = fact_for(dice, seed)
                is_put = dice.random() < (0.7 if step < 50 else 0.2)
                told = (put_fact if is_put else take_fact)(contents, width, fact)
                self.assertEqual(told == {}, (fact in facts) == is_put)
                later = {**contents, **told}
                facts = facts | {fact} if is_put else facts - {fact}
                self.check(contents, later, told, width, facts, is_put)
                contents = later
                halves += any([node is None for node in told.values()])
                deep += max(depths(contents, 0)) > 1
            contents = {page: node for page, node in contents.items() if node is not None}
        self.assertGreater(min(deep, halves), 200)

    def check(self, contents, later, told, width, facts, is_put):
        self.assertTrue(is_index(later, width))
        self.assertTrue(slow_is_index(later, width))
        self.assertEqual(below(later, 0), sorted(facts, key=brute.atom_rank))
        self.assertEqual(facts_on(later, width), Facts(sorted(facts, key=str)))
        self.assertEqual(list(told), sorted(told))
        self.assertTrue(all([told[page] != contents.get(page) for page in told]))
        old, new = [{page for page, node in some.items() if node is not None} for some in (contents, later)]
        free = [page for page in range(100) if page not in old]
        self.assertEqual(sorted(new - old), free[:len(new - old)])
        self.assertFalse(is_put and old - new)
        before, behind = ranges(contents), ranges(later)
        for page in behind:
            if page not in told:
                self.assertEqual(behind[page], before[page])

    def test_is_index_against_the_words(self):
        right, wrong = 0, 0
        for seed in range(700):
            dice = random.Random(seed)
            width = 3 + seed % 3
            contents = {0: ("leaf",)}
            for _ in range(dice.randint(1, 16)):
                contents.update(put_fact(contents, width, ("p", dice.randint(0, 30))))
            for _ in range(dice.randint(0, 2)):
                page = dice.choice(list(contents))
                node = contents[page]
                if node is None:
                    continue
                at = dice.randrange(1, len(node)) if len(node) > 1 else 0
                word = dice.choice(("drop", "other", "swap", "none"))
                if word == "drop" and at and node[0] == "leaf":
                    contents[page] = node[:at] + node[at + 1:]
                elif word == "other" and at:
                    other = dice.randint(0, 4) if isinstance(node[at], int) else ("p", dice.randint(0, 30))
                    contents[page] = node[:at] + (other,) + node[at + 1:]
                elif word == "swap":
                    other = dice.choice(list(contents))
                    contents[page], contents[other] = contents[other], contents[page]
                elif word == "none":
                    contents[page] = None
            try:
                slow = slow_is_index(contents, width)
            except (KeyError, TypeError, RecursionError):
                slow = False
            self.assertIs(is_index(contents, width), slow, seed)
            right += slow
            wrong += not slow
        self.assertGreater(min(right, wrong), 150)

    def test_at_the_limits(self):
        for width in range(3, 9):
            contents = {0: ("leaf",)}
            for at in range(60):
                contents.update(put_fact(contents, width, ("e", at * 7 % 60, "x")))
            self.assertEqual(len(facts_on(contents, width)), 60)
            for at in range(60):
                contents.update(take_fact(contents, width, ("e", at * 11 % 60, "x")))
            self.assertEqual({page for page, node in contents.items() if node is not None}, {0})


if __name__ == "__main__":
    unittest.main()
