"""Points [35] to [41]: goals, goal tables, chains and rules for a goal."""

import unittest

from rulehouse.errors import BadCall, HasNot, NoAtom, NoFact
from rulehouse.facts import Facts
from rulehouse.following import what_follows
from rulehouse.goals import answers, chain_to, goal_rules, goal_table, is_chain, is_goal_table, shows_not
from rulehouse.matching import matches
from rulehouse.names import is_name
from rulehouse.rules import Rules
from tests import brute
from tests.brute import Dice
from tests.odd import facts_of, kinds_of, odd_objects, rules_of
from tests.test_following import NO_FACTS

WAY = rules_of("way X Y if e X Y", "way X Z if e X Y, way Y Z")
EDGES = facts_of("e a b", "e b c")
FROM_B = ("way", "b", "X")
TABLE = {("e", "b", None): [("e", "b", "c")], ("e", "c", None): [], ("way", "b", None): [("way", "b", "c")],
         ("way", "c", None): []}
NOT = rules_of("p", "q if not r", "s if not t")
NO_ATOMS = odd_objects() + [("not", ("p",)), (), "p", ("unlike", 1, 2), ("way", "b", None)]
THINGS = ["a", "b", 3]


def calls_rank(call):
    return (call[0], len(call), [(-1,) if place is None else brute.term_rank(place) for place in call[1:]])


def goals_of(dice):
    relations = {"p": 1, "q": 2, "r": 1, "e": 2, "f": 1}
    return [dice.atom(relations, "XY", THINGS) for _ in range(3)] + [dice.fact(relations, THINGS), ("q", "a"), ("zz",)]


class Answers(unittest.TestCase):
    def test_answers(self):
        self.assertEqual(answers(WAY, EDGES, ("way", "X", "Y")), [
            {"X": "a", "Y": "b"}, {"X": "a", "Y": "c"}, {"X": "b", "Y": "c"}])
        self.assertEqual(answers(rules=WAY, facts=EDGES, goal=["way", "Z", "c"]), [{"Z": "a"}, {"Z": "b"}])
        self.assertEqual(answers(WAY, EDGES, ("way", "a", "c")), [{}])
        self.assertEqual(answers(WAY, EDGES, ("way", "c", "a")), [])
        self.assertEqual(answers(WAY, EDGES, ("way", "X", "X")), [])
        self.assertEqual(answers(WAY, EDGES, ("zz",)), [])
        self.assertEqual(answers(WAY, EDGES, ("way", "X")), [])


class Errors(unittest.TestCase):
    def test_goals(self):
        for call in (answers, goal_table, lambda rules, facts, goal: is_goal_table(rules, facts, goal, None),
                     lambda rules, facts, goal: chain_to(rules, facts, goal, 1),
                     lambda rules, facts, goal: is_chain(rules, facts, goal, 1, None),
                     lambda rules, facts, goal: goal_rules(rules, goal)):
            for thing in NO_ATOMS:
                with self.assertRaises(NoAtom) as caught:
                    call(WAY, EDGES, thing)
                self.assertIs(caught.exception.thing, thing)
            with self.assertRaises(HasNot) as caught:
                call(NOT, EDGES, None)
            self.assertEqual(caught.exception.index, 1)

    def test_calls(self):
        for call in (chain_to, lambda *told: is_chain(*told, None)):
            others = [thing for thing in odd_objects() if thing != ["a", None]]
            for thing in others + [("way", "X", None), (None,), ("not", None), "way", (), ("way", "b", True),
                                   ("p", 1, 2, 3, 4, 5, 6, None)]:
                with self.assertRaises(BadCall) as caught:
                    call(WAY, EDGES, FROM_B, thing)
                self.assertIs(caught.exception.thing, thing)

    def test_facts(self):
        for thing in NO_FACTS:
            with self.assertRaises(NoFact) as caught:
                shows_not(WAY, EDGES, thing, None)
            self.assertIs(caught.exception.thing, thing)
        self.assertRaises(HasNot, shows_not, NOT, EDGES, None, None)


class Tables(unittest.TestCase):
    def test_the_example(self):
        told = goal_table(WAY, EDGES, FROM_B)
        self.assertEqual(told, TABLE)
        self.assertEqual(list(told), list(TABLE))
        self.assertIs(is_goal_table(rules=WAY, facts=EDGES, goal=list(FROM_B), thing=told), True)
        told[("e", "b", None)].append(1)
        del told[("e", "c", None)]
        self.assertEqual(goal_table(rules=WAY, facts=EDGES, goal=FROM_B), TABLE)
        self.assertEqual(kinds_of(list(goal_table(WAY, EDGES, list(FROM_B)).items())), kinds_of(list(TABLE.items())))

    def test_goals_of_no_relation(self):
        self.assertEqual(goal_table(WAY, EDGES, ("zz", "X", 1)), {("zz", None, 1): []})
        self.assertEqual(goal_table(WAY, EDGES, ("way", "X")), {("way", None): []})
        wide = ("way", 1, 2, 3, 4, 5, "X")
        self.assertEqual(chain_to(WAY, EDGES, wide, wide[:6] + (None,)), [])
        self.assertEqual(goal_table(WAY, EDGES, ("e", "X", "b")), {("e", None, "b"): [("e", "a", "b")]})
        self.assertEqual(goal_table(WAY, EDGES, ("e", "X", "X")),
                         {("e", None, None): [("e", "a", "b"), ("e", "b", "c")]})

    def test_unlikes_hold_as_soon_as_they_can_be_asked(self):
        rules = rules_of("p X if q Y, r X, unlike X X", "s X if unlike X a, r X, q X", "t if q X, unlike a a, r X")
        facts = facts_of("q a", "q b", "r a", "r b")
        self.assertEqual(list(goal_table(rules, facts, ("p", "X"))), [("p", None), ("q", None), ("r", None)])
        self.assertEqual(list(goal_table(rules, facts, ("p", "a"))), [("p", "a")])
        self.assertEqual(list(goal_table(rules, facts, ("s", "X"))), [("q", "b"), ("r", None), ("s", None)])
        self.assertEqual(list(goal_table(rules, facts, ("s", "a"))), [("s", "a")])
        self.assertEqual(list(goal_table(rules, facts, ("t",))), [("t",)])

    def test_letters_of_unlikes_are_kept_in_mind(self):
        facts = facts_of("q a", "q c", "r a", "r b")
        for unlike in ("unlike X Y", "unlike Y X"):
            rules = rules_of("p if q X, r Y, " + unlike + ", s Y", "t if q X, unlike X c, r Y, " + unlike + ", s Y")
            self.assertEqual(list(goal_table(rules, facts, ("p",))), [
                ("p",), ("q", None), ("r", None), ("s", "a"), ("s", "b")])
            self.assertEqual(list(goal_table(rules, facts, ("t",))), [("q", None), ("r", None), ("s", "b"), ("t",)])

    def test_heads_with_things_and_letters_twice(self):
        rules = rules_of("p X X a if q X", "p X Y b if q Y, r X")
        facts = facts_of("q a", "r b")
        self.assertEqual(list(goal_table(rules, facts, ("p", 1, "Z", "Z"))),
                         [("p", 1, None, None), ("q", None), ("q", 1), ("r", 1)])
        self.assertEqual(list(goal_table(rules, facts, ("p", 1, 2, "X"))), [("p", 1, 2, None), ("q", 2)])
        self.assertEqual(list(goal_table(rules, facts, ("p", "X", 1, "a"))), [("p", None, 1, "a"), ("q", 1)])

    def test_what_is_no_table(self):
        for thing in odd_objects() + [
                {}, list(TABLE.items()), {**TABLE, ("e", "z"): [("e", 1)]}, {**TABLE, ("e", "z"): None},
                {**TABLE, ("e", "X", None): []}, {**TABLE, ("z", True): []}, {**TABLE, "e": []}, {**TABLE, None: []},
                {**TABLE, ("z", 1): [("z", True)]}, {**TABLE, ("e", "c", None): [("e", "b", "c")]},
                {**TABLE, ("e", "b", None): []}, {**TABLE, ("way", "b", None): []}, {**TABLE, ("e", "c", None): "e"},
                {**TABLE, ("e", "a", None): []}, {**TABLE, ("way", "a", None): [("way", "a", "b")]},
                {**TABLE, ("e", "c", None): [("e", "c", "d")]}, {**TABLE, ("zz",): [("z",)]}, {**TABLE, ("zz",): [("zz", 1)]},
                {**TABLE, ("zz", None): [("z", 1)]}, {**TABLE, ("zz", None): [("zz",)]}, {**TABLE, (): []},
                {**TABLE, ("z", 1, 2, 3, 4, 5, 6, 7): []}]:
            self.assertIs(is_goal_table(WAY, EDGES, FROM_B, thing), False, thing)
        self.assertIs(is_goal_table(WAY, EDGES, FROM_B, {**TABLE, ("z", 1, 2, 3, 4, 5, None): [("z", 1, 2, 3, 4, 5, 6)]}), True)
        for call in TABLE:
            self.assertIs(is_goal_table(WAY, EDGES, FROM_B, {key: TABLE[key] for key in TABLE if key != call}), False)
        self.assertIs(is_goal_table(WAY, EDGES, ("way", "a", "X"), TABLE), False)

    def test_what_is_let(self):
        more = {("way", "b", None): (["way", "b", "c"], ["way", "b", "c"], ("way", "b", "z")), **{
            call: tuple(told) for call, told in TABLE.items() if call[0] == "e"}, ("zz",): [["zz"]],
            ("way", "c", None): [("way", "c", "c"), ("way", "c", "z")]}
        self.assertIs(is_goal_table(WAY, EDGES, FROM_B, more), True)
        whole = {("way", None, None): what_follows(WAY, EDGES).of("way", 2), ("e", None, None): EDGES.listed()}
        self.assertIs(is_goal_table(WAY, EDGES, ("way", "X", "Y"), whole), False)
        whole = goal_table(WAY, EDGES, ("way", "X", "Y"))
        self.assertIs(is_goal_table(WAY, EDGES, ("way", "b", "X"), whole), True)

    def test_rules_without_atoms(self):
        rules = rules_of("p a", "p b if unlike 1 1", "p c if unlike 1 2")
        self.assertEqual(goal_table(rules, Facts([]), ("p", "X")), {("p", None): [("p", "a"), ("p", "c")]})
        self.assertIs(is_goal_table(rules, Facts([]), ("p", "X"), {("p", None): [("p", "c")]}), False)
        self.assertIs(is_goal_table(rules, Facts([]), ("p", "b"), {("p", "b"): []}), True)
        self.assertIs(is_goal_table(rules, Facts([]), ("p", "a"), {("p", "a"): []}), False)

    def test_against_the_words(self):
        for seed in range(150):
            dice = Dice(seed)
            rules, facts = dice.program(seed % 6)
            standing = brute.follows(rules, facts)
            for goal in goals_of(dice)[:3]:
                slow = sorted(brute.calls_up(rules, facts, goal), key=calls_rank)
                told = goal_table(Rules(rules), Facts(facts), goal)
                self.assertEqual(list(told), slow)
                for call in told:
                    self.assertEqual(told[call], Facts([fact for fact in standing if brute.agrees(fact, call)]).listed())
                self.assertTrue(is_goal_table(Rules(rules), Facts(facts), goal, told))
                self.assertTrue(brute.is_goal_table(rules, facts, goal, told))
                for _ in range(8):
                    other = self.changed(dice, told)
                    self.assertIs(is_goal_table(Rules(rules), Facts(facts), goal, other),
                                  brute.is_goal_table(rules, facts, goal, other))

    def changed(self, dice, table):
        other = {call: list(facts) for call, facts in table.items()}
        call = dice.random.choice(list(other))
        turn = dice.random.randint(0, 3)
        if turn == 0:
            del other[call]
        elif turn == 1 and other[call]:
            other[call].pop(dice.random.randint(0, len(other[call]) - 1))
        elif turn == 2:
            other[call].append(tuple([dice.random.choice(THINGS) if place is None else place for place in call]))
        else:
            call = (call[0],) + tuple([dice.random.choice([place, None, "a"]) for place in call[1:]])
            other.setdefault(call, [])
        return other


class ShownNot(unittest.TestCase):
    def test_shows_not(self):
        fact = ("way", "c", "a")
        table = {("e", "c", None): [], ("e", "c", "a"): [], fact: []}
        self.assertEqual(goal_table(WAY, EDGES, fact), table)
        self.assertIs(shows_not(WAY, EDGES, fact, table), True)
        self.assertIs(shows_not(rules=WAY, facts=EDGES, fact=list(fact), thing=table), True)
        self.assertIs(shows_not(WAY, EDGES, fact, {**table, fact: [fact]}), False)
        self.assertIs(shows_not(WAY, EDGES, ("way", "a", "c"), goal_table(WAY, EDGES, ("way", "a", "c"))), False)
        self.assertIs(shows_not(WAY, EDGES, ("zz",), {("zz",): ()}), True)
        for thing in odd_objects() + [TABLE, {fact: []}, {**table, ("z", True): []}]:
            self.assertIs(shows_not(WAY, EDGES, fact, thing), False, thing)

    def test_just_if_it_does_not_follow(self):
        for seed in range(100):
            dice = Dice(seed)
            rules, facts = dice.program(seed % 6)
            standing = brute.follows(rules, facts)
            fact = goals_of(dice)[3]
            table = goal_table(Rules(rules), Facts(facts), fact)
            self.assertIs(shows_not(Rules(rules), Facts(facts), fact, table), fact not in standing)


class Chains(unittest.TestCase):
    def test_the_example(self):
        self.assertEqual(chain_to(WAY, EDGES, FROM_B, ("way", "b", None)), [])
        self.assertEqual(chain_to(WAY, EDGES, FROM_B, ["way", "c", None]), [(1, (("e", "b", "c"),))])
        self.assertEqual(chain_to(rules=WAY, facts=EDGES, goal=FROM_B, call=("e", "c", None)),
                         [(1, (("e", "b", "c"),)), (0, ())])
        self.assertIsNone(chain_to(WAY, EDGES, FROM_B, ("way", "a", None)))
        self.assertIsNone(chain_to(WAY, EDGES, FROM_B, ("way", "b")))

    def test_is_chain(self):
        call = ("e", "c", None)
        step = (1, (("e", "b", "c"),))
        for thing in ([step, (0, ())], ([1, [["e", "b", "c"]]], [1, []]), (step, [1, ()])):
            self.assertIs(is_chain(WAY, EDGES, FROM_B, call, thing), True)
        self.assertIs(is_chain(rules=WAY, facts=EDGES, goal=FROM_B, call=list(call), thing=[step, (0, ())]), True)
        for thing in odd_objects() + [
                [], [step], [(0, ())], [step, (0, ()), (0, ())], [step, (2, ())], [step, (-1, ())], [step, (False, ())],
                [step, ("0", ())], [step, (0,)], [step, (0, (), ())], [step, (0, None)], [step, (0, "")], [step, None],
                [(1, (("e", "a", "b"),)), (0, ())], [(1, (("e", "b", "z"),)), (0, ())], [(1, (1,)), (0, ())],
                [(1, (("e", "b", "c"), ("way", "c", "c"))), (0, ())], {0: step, 1: (0, ())}, [step, (0, (("e", "c", "c"),))]]:
            self.assertIs(is_chain(WAY, EDGES, FROM_B, call, thing), False, thing)

    def test_no_link_leads_back_to_the_call_of_the_goal(self):
        rules = rules_of("p X if q X, p X", "p X if r X, s X")
        facts = facts_of("q a", "r a")
        self.assertIs(is_chain(rules, facts, ("p", "a"), ("p", "a"), []), True)
        self.assertIs(is_chain(rules, facts, ("p", "a"), ("p", "a"), [(0, (("q", "a"),))]), False)
        self.assertIs(is_chain(rules, facts, ("p", "a"), ("r", "a"), [(0, (("q", "a"),)), (1, ())]), False)
        self.assertIs(is_chain(rules, facts, ("p", "a"), ("r", "a"), [(1, ())]), True)

    def test_each_link_is_looked_through(self):
        rules = rules_of("p a X if q X, q X, s X")
        facts = facts_of("q 1", "r 1", "s 1", "q 1 1")
        self.assertIs(is_chain(rules, facts, ("p", "Y", "X"), ("s", 1), [(0, (("q", 1), ("q", 1)))]), True)
        for goal, call, link in (
                (("p", "Y", "X"), ("s", 1), (0, (("q", 1), ("r", 1)))), (("p", "Y", "X"), ("s", 1), (0, (("q", 1),))),
                (("p", "Y", "X"), ("s", 1), (0, (("q", 1), ("q", 1, 1)))), (("p", "Y", "X"), ("s", 2), (0, (("q", 2), ("q", 2)))),
                (("p", "Y", "X"), ("s", 1), (0, (("q", 1), ("q", 1), ("s", 1)))), (("p", "Y", "X"), ("s", 1), (0, (1, 1))),
                (("p", "b", "X"), ("s", 1), (0, (("q", 1), ("q", 1)))), (("p", "b", "X"), ("q", None), (0, ())),
                (("p", "Y"), ("q", None), (0, ())), (("s", "Y", "X"), ("q", None), (0, ())),
                (("p", "Y", 2), ("s", 1), (0, (("q", 1), ("q", 1))))):
            self.assertIs(is_chain(rules, facts, goal, call, [link]), False, (goal, link))
        self.assertIs(is_chain(WAY, EDGES, FROM_B, ("way", "z", None), [(1, (("e", "b", "z"),))]), False)
        whole = (1, (("e", "a", "b"), ("way", "b", "c")))
        self.assertIs(is_chain(WAY, EDGES, ("way", "a", "X"), ("way", "b", None), [whole]), False)

    def test_kinds(self):
        self.assertEqual(kinds_of(chain_to(WAY, EDGES, list(FROM_B), ["way", "c", None])),
                         kinds_of([(1, (("e", "b", "c"),))]))

    def test_unlikes_are_asked(self):
        rules = rules_of("p if q X, unlike X a, r X")
        facts = facts_of("q a", "q b")
        self.assertIs(is_chain(rules, facts, ("p",), ("r", "b"), [(0, (("q", "b"),))]), True)
        self.assertIs(is_chain(rules, facts, ("p",), ("r", "a"), [(0, (("q", "a"),))]), False)
        self.assertIsNone(chain_to(rules, facts, ("p",), ("r", "a")))

    def test_just_if_the_call_comes_up(self):
        for seed in range(120):
            dice = Dice(seed)
            rules, facts = dice.program(seed % 6)
            for goal in goals_of(dice)[:2]:
                slow = brute.calls_up(rules, facts, goal)
                for call, links in slow.items():
                    chain = chain_to(Rules(rules), Facts(facts), goal, call)
                    self.assertEqual(len(chain), links)
                    self.assertTrue(is_chain(Rules(rules), Facts(facts), goal, call, chain))
                    self.assertFalse(is_chain(Rules(rules), Facts(facts), goal, ("zz", None), chain))
                for call in (("p", "b"), ("q", None, None), ("zz",), ("f", 3)):
                    self.assertEqual(chain_to(Rules(rules), Facts(facts), goal, call) is None, call not in slow)


class RulesForAGoal(unittest.TestCase):
    def check(self, rules, facts, goal):
        other, seed, names = goal_rules(rules, goal)
        self.assertIsInstance(other, Rules)
        self.assertEqual(len(seed), 1)
        old = rules.made() + rules.given() + [goal[0]]
        for name, (relation, places) in names.items():
            self.assertTrue(is_name(name) and name not in old)
            self.assertEqual(list(places), sorted(set(places)))
        self.assertEqual(len(set(names.values())), len(names))
        table = goal_table(rules, facts, goal)
        called = {pair: name for name, pair in names.items()}
        expected = facts.listed() + [fact for told in table.values() for fact in told]
        for call in table:
            places = tuple([place for place, thing in enumerate(call[1:]) if thing is not None])
            expected.append((called[(call[0], places)],) + tuple([thing for thing in call[1:] if thing is not None]))
        self.assertEqual(what_follows(other, facts | seed), Facts(expected))
        self.assertTrue(all([part[0] != "not" for head, body in other.listed() for part in body]))

    def test_the_example(self):
        self.check(WAY, EDGES, FROM_B)
        told = goal_rules(rules=WAY, goal=list(FROM_B))
        self.assertEqual((told[0], told[1], told[2]), goal_rules(WAY, FROM_B))
        self.assertEqual(kinds_of(list(told[2].values())[0]), kinds_of(("way", (0,))))
        self.assertIsInstance(told, tuple)

    def test_edges(self):
        for goal in (("way", "X", "Y"), ("way", "X", "X"), ("way", "a", "c"), ("zz",), ("way", "X"), ("e", "X", "b")):
            self.check(WAY, EDGES, goal)
        self.check(rules_of("p X X a if q X", "p X Y b if q Y, r X"), facts_of("q a", "r 1", "r b"), ("p", 1, "Z", "W"))
        self.check(rules_of("p", "q if p, unlike 1 1", "ask0 if q", "ask1 if p"), Facts([]), ("q",))
        self.check(rules_of("ask0 if ask1, ask2", "ask1"), facts_of("ask1", "ask2"), ("ask0",))

    def test_against_the_words(self):
        for seed in range(150):
            dice = Dice(seed)
            rules, facts = dice.program(seed % 6)
            for goal in goals_of(dice):
                self.check(Rules(rules), Facts(facts), goal)


class Limits(unittest.TestCase):
    def test_two_hundred_facts(self):
        facts = Facts([("e", n, n + 1) for n in range(42)] + [("x", n) for n in range(150)])
        told = goal_table(WAY, facts, ("way", "X", "Y"))
        self.assertEqual(len(told), 2 * (43 + 1) - 1 - 1)
        self.assertTrue(is_goal_table(WAY, facts, ("way", "X", "Y"), told))
        self.assertEqual(len(chain_to(WAY, facts, ("way", 0, "Y"), ("e", 42, None))), 43)
        self.assertEqual(len(answers(WAY, facts, ("way", "X", "Y"))), 42 * 43 // 2)
        self.assertEqual(len(matches(facts, [("x", "X")])), 150)


if __name__ == "__main__":
    unittest.main()
