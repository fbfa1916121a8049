"""Points [102], [104], [105], [106], [110]: what stands, kept up while facts come and go."""

import unittest

from rulehouse.errors import BadFact, BadTake, BothWays, NoVersion, RingThroughNot
from rulehouse.facts import Facts
from rulehouse.following import heights
from rulehouse.kept import Kept, is_kept
from rulehouse.levels import by_levels, is_not_ring, levels
from rulehouse.rules import Rules
from tests import brute
from tests.brute import Dice
from tests.odd import facts_of, kinds_of, odd_objects, rules_of
from tests.test_following import NO_FACTS
from tests.test_madeways import slow_ways

WAY = rules_of("way X Y if edge X Y", "way X Z if edge X Y, way Y Z", "lone X if node X, not way X X", "top")
EDGES = facts_of("edge 1 2", "edge 2 3", "node 1", "node 3")
ODD_RING = rules_of("p if q", "q if not p")


def slow_numbers(rules, given, standing):
    """By the words: the least numbers, found by going on from what is given."""
    found = {fact: 0 for fact in given}
    while True:
        more = dict(found)
        for fact in standing:
            for number, calls in slow_ways(rules, standing, fact):
                below = [brute.put(atom, calls) for atom in brute.plain(rules[number][1])]
                if all([other in found for other in below]):
                    many = 1 + max([found[other] for other in below], default=0)
                    more[fact] = min(many, more.get(fact, many))
        if more == found:
            return found
        found = more


def slow_is_kept(rules, given, told):
    keys = set(told)
    if not set(given) <= keys or not brute.heads(rules, keys) <= keys:
        return False
    for fact in keys - set(given):
        ways = [[brute.put(atom, calls) for atom in brute.plain(rules[number][1])] for number, calls in slow_ways(rules, keys, fact)]
        if told[fact] < 1 or not any([all([told[other] < told[fact] for other in below]) for below in ways]):
            return False
    return True


def drawn(seed):
    """Rules with levels and facts."""
    while True:
        rules, facts = Dice(seed).program(1 + seed % 4, ("not", "unlike"))
        if levels(Rules(rules)) is not None:
            return rules, facts
        seed += 10000


class Standing(unittest.TestCase):
    def test_what_is_kept(self):
        kept = Kept(rules=WAY, facts=EDGES)
        self.assertEqual((kept.given(), kept.standing(), kept.version()), (EDGES, by_levels(WAY, EDGES), 0))
        self.assertEqual(list(kept.numbers().items()), [
            (("edge", 1, 2), 0), (("edge", 2, 3), 0), (("lone", 1), 1), (("lone", 3), 1), (("node", 1), 0), (("node", 3), 0),
            (("top",), 1), (("way", 1, 2), 1), (("way", 1, 3), 2), (("way", 2, 3), 1)])
        kept.numbers().clear()
        self.assertEqual(len(kept.numbers()), 10)
        self.assertEqual(kinds_of(list(kept.numbers())[:3]), kinds_of([("edge", 1, 2), ("edge", 2, 3), ("lone", 1)]))

    def test_given_and_made(self):
        kept = Kept(WAY, facts_of("edge 1 2", "way 1 2", "top", "way 1 1"))
        self.assertEqual(kept.numbers(), {("edge", 1, 2): 0, ("top",): 0, ("way", 1, 1): 0, ("way", 1, 2): 0})
        self.assertEqual(kept.change([], [("way", 1, 2), ("top",), ("way", 1, 1)]), ([], [("way", 1, 1)]))
        self.assertEqual(kept.numbers(), {("edge", 1, 2): 0, ("top",): 1, ("way", 1, 2): 1})
        self.assertEqual(kept.change([["way", 1, 2]], []), ([], []))
        self.assertEqual(kept.given(), facts_of("edge 1 2", "way 1 2"))

    def test_a_number_of_given_facts_goes_on(self):
        rules = rules_of("p X if q X", "r X if p X", "s if r X, not zz", "t if s, r a")
        kept = Kept(rules, facts_of("q a", "r b"))
        self.assertEqual(kept.numbers(), {("p", "a"): 1, ("q", "a"): 0, ("r", "a"): 2, ("r", "b"): 0, ("s",): 1, ("t",): 3})

    def test_rings_through_nots(self):
        for call in (lambda: Kept(ODD_RING, Facts([])), lambda: is_kept(ODD_RING, Facts([]), None)):
            with self.assertRaises(RingThroughNot) as caught:
                call()
            self.assertTrue(is_not_ring(ODD_RING, caught.exception.ring))
            self.assertEqual(len(caught.exception.ring), 2)


class Changes(unittest.TestCase):
    def test_change(self):
        kept = Kept(WAY, EDGES)
        self.assertEqual(kept.change(put=[("edge", 3, 1)], take=(["node", 3], ("edge", 9, 9))), (
            [("edge", 3, 1), ("way", 1, 1), ("way", 2, 1), ("way", 2, 2), ("way", 3, 1), ("way", 3, 2), ("way", 3, 3)],
            [("lone", 1), ("lone", 3), ("node", 3)]))
        self.assertEqual(kept.version(), 1)
        self.assertEqual(kept.given(), facts_of("edge 1 2", "edge 2 3", "edge 3 1", "node 1"))
        self.assertEqual(kept.change([("node", 1)], []), ([], []))
        self.assertEqual(kept.version(), 2)
        self.assertEqual(kinds_of(kept.change([("node", 7), ("node", 7)], [])),
                         kinds_of(([("lone", 7), ("node", 7)], [])))

    def test_goings_back(self):
        kept = Kept(WAY, EDGES)
        kept.change([("edge", 3, 1)], [("node", 1)])
        kept.change([], [("edge", 1, 2)])
        self.assertEqual([kept.given_at(version) for version in range(3)], [
            EDGES, facts_of("edge 1 2", "edge 2 3", "edge 3 1", "node 3"), facts_of("edge 2 3", "edge 3 1", "node 3")])
        come, gone = kept.back(0)
        self.assertEqual((kept.given(), kept.version(), kept.given_at(version=3)), (EDGES, 3, EDGES))
        self.assertEqual(kept.standing(), by_levels(WAY, EDGES))
        self.assertEqual(gone, [("edge", 3, 1), ("way", 2, 1), ("way", 3, 1)])
        self.assertEqual(come, [("edge", 1, 2), ("lone", 1), ("node", 1), ("way", 1, 2), ("way", 1, 3)])
        self.assertEqual(kept.back(version=3), ([], []))
        self.assertEqual((kept.version(), kept.given_at(2)), (4, facts_of("edge 2 3", "edge 3 1", "node 3")))

    def test_refused_changes_change_nothing(self):
        kept = Kept(WAY, EDGES)
        kept.change([("node", 2)], [])
        standing, given = kept.standing(), kept.given()
        odd = [thing for thing in NO_FACTS + odd_objects()]
        for thing in odd:
            for put, take, error, index in (([("node", 4), thing], [thing], BadFact, 1), ([("node", 4)], [("node", 4), ("node", 1), thing],
                                                                                         BadTake, 2)):
                with self.assertRaises(error) as caught:
                    kept.change(put, take)
                self.assertEqual(caught.exception.index, index)
        for thing in (None, "ab", 3, {}, True, Facts([("p",)])):
            with self.assertRaises(BadFact) as caught:
                kept.change(thing, thing)
            self.assertEqual(caught.exception.index, 0)
            with self.assertRaises(BadTake) as caught:
                kept.change([("p",)], thing)
            self.assertEqual(caught.exception.index, 0)
        with self.assertRaises(BothWays) as caught:
            kept.change([("p",), ("node", 5), ["q"]], [("q",), ["node", 5]])
        self.assertEqual(caught.exception.fact, ("node", 5))
        for thing in odd_objects() + [-1, 2, "0", (0,)]:
            for call in (kept.given_at, kept.back):
                with self.assertRaises(NoVersion) as caught:
                    call(thing)
                self.assertIs(caught.exception.number, thing)
        self.assertEqual((kept.standing(), kept.given(), kept.version()), (standing, given, 1))

    def test_what_is_handed_in_may_change(self):
        put = [["node", 9]]
        kept = Kept(WAY, EDGES)
        kept.change(put, [])
        put[0][1] = 8
        put.append(("node", 7))
        self.assertEqual(kept.given(), EDGES | facts_of("node 9"))

    def test_against_what_stands_anew(self):
        for seed in range(300):
            rules, facts = drawn(seed)
            dice = Dice(seed)
            kinds = {"p": 1, "q": 2, "r": 1, "e": 2, "f": 1}
            kept = Kept(Rules(rules), Facts(facts))
            given = set(facts)
            for _ in range(5):
                last = set(kept.standing().listed())
                put = dice.facts(dice.random.randint(0, 2), kinds, ["a", "b", 3])
                take = [fact for fact in dice.random.sample(sorted(given, key=str), min(2, len(given))) if fact not in put]
                come, gone = kept.change(put, take)
                given = (given - set(take)) | set(put)
                standing = brute_levels(rules, given)
                self.assertEqual(set(kept.standing().listed()), standing, seed)
                self.assertEqual(come, sorted(standing - last, key=brute.atom_rank))
                self.assertEqual(gone, sorted(last - standing, key=brute.atom_rank))
                numbers = kept.numbers()
                self.assertEqual(numbers, slow_numbers(rules, given, standing))
                self.assertEqual(list(numbers), kept.standing().listed())
                self.assertTrue(is_kept(Rules(rules), kept.given(), numbers))

    def test_numbers_are_heights_without_nots(self):
        for seed in range(100):
            rules, facts = Dice(seed).winding()
            kept = Kept(Rules(rules), Facts(facts))
            self.assertEqual(kept.numbers(), heights(Rules(rules), Facts(facts)))

    def test_at_the_limits(self):
        rules = rules_of("way X Y if edge X Y", "way X Z if edge X Y, way Y Z", "off X Y if node X, node Y, not way X Y",
                         "both X Y if way X Y, way Y X, unlike X Y", "end X if node X, not edge X X, not near X", "near X if edge X Y",
                         "far X Y if off X Y, off Y X", "lone X if node X, not mate X", "mate X if both X Y", "some if lone X, end X")
        facts = [("node", at) for at in range(10)] + [("edge", at, at + 1) for at in range(9)]
        kept = Kept(rules, Facts(facts))
        for at in range(40):
            kept.change([("edge", at % 9 + 1, at % 7)], [("edge", at % 5, at % 5 + 1)] if at % 3 else [])
            self.assertEqual(kept.standing(), by_levels(rules, kept.given()))
            self.assertTrue(is_kept(rules, kept.given(), kept.numbers()))
        kept.back(0)
        self.assertEqual((kept.version(), kept.given()), (41, Facts(facts)))


def brute_levels(rules, given):
    """What stands, level by level, by the words."""
    found = levels(Rules(rules))
    standing = set(given)
    for level in range(max(found.values(), default=-1) + 1):
        some = [(head, body) for head, body in rules if found[head[0]] == level]
        while not brute.heads(some, standing) <= standing:
            standing = standing | brute.heads(some, standing)
    return standing


class Papers(unittest.TestCase):
    def test_papers(self):
        kept = Kept(WAY, EDGES)
        told = kept.numbers()
        self.assertIs(is_kept(rules=WAY, facts=EDGES, thing=told), True)
        self.assertIs(is_kept(WAY, EDGES, dict(list(told.items())[::-1])), True)
        self.assertIs(is_kept(WAY, EDGES, {fact: number * 3 for fact, number in told.items()}), True)
        self.assertIs(is_kept(WAY, EDGES, {**told, ("edge", 1, 2): 1, ("way", 1, 2): 2}), True)
        self.assertIs(is_kept(Rules([]), Facts([]), {}), True)
        self.assertIs(is_kept(Rules([]), facts_of("p"), {("p",): 17}), True)
        for wrong in ({**told, ("way", 1, 3): 1}, {**told, ("top",): 0}, {**told, ("edge", 1, 2): 1}, {**told, ("node", 2): 1},
                      {**told, ("way", 7, 7): 1}, {**told, ("way", 1, 2): True}, {**told, ("way", 1, 2): -1}, {**told, ("way", 1, 2): None},
                      {**told, "p": 1}, {**told, ("P",): 1}, {**told, None: 1}, {**told, ("node", 1): -1}, list(told), list(told.items()),
                      {fact: told[fact] for fact in told if fact != ("way", 1, 3)}, {**told, ("way", 1, 2): "1"},
                      {fact: told[fact] for fact in told if fact != ("node", 1)}, {fact: told[fact] for fact in told if fact != ("top",)}):
            self.assertIs(is_kept(WAY, EDGES, wrong), False, wrong)
        for thing in odd_objects():
            self.assertIs(is_kept(WAY, EDGES, thing), False, thing)

    def test_what_holds_itself_up_stands_in_no_paper(self):
        rules = rules_of("p X if q X", "q X if p X", "r X if e X, not p X")
        facts = facts_of("e 1")
        self.assertIs(is_kept(rules, facts, {("e", 1): 0, ("r", 1): 1}), True)
        for one, other in ((1, 1), (1, 2), (2, 1), (0, 0), (0, 1)):
            self.assertIs(is_kept(rules, facts, {("e", 1): 0, ("p", 1): one, ("q", 1): other}), False)

    def test_against_the_words(self):
        right, wrong = 0, 0
        for seed in range(600):
            rules, facts = drawn(seed)
            dice = Dice(seed)
            kept = Kept(Rules(rules), Facts(facts))
            told = kept.numbers()
            for _ in range(4):
                bent = {fact: number + dice.random.choice((0, 0, 0, 1, 2)) for fact, number in told.items()}
                if bent and dice.random.random() < 0.4:
                    del bent[dice.random.choice(list(bent))]
                if dice.random.random() < 0.3:
                    bent[dice.fact({"p": 1, "q": 2, "r": 1}, ["a", "b", 3])] = dice.random.randint(0, 3)
                is_one = is_kept(Rules(rules), Facts(facts), bent)
                self.assertEqual(is_one, slow_is_kept(rules, facts, bent), seed)
                if is_one:
                    right += 1
                    self.assertEqual(sorted(bent, key=brute.atom_rank), list(told))
                    self.assertTrue(all([told[fact] <= bent[fact] for fact in told]))
                else:
                    wrong += 1
        self.assertGreater(min(right, wrong), 300)


if __name__ == "__main__":
    unittest.main()
