"""Points [3], [4], [5]: lists and tuples, names of arguments, copies, and the same answer each time."""

import copy
import unittest

from rulehouse.breaking import are_safe_closings, breaking, done_deed, looks, safe_closings
from rulehouse.cases import behind, cases, wide_facts
from rulehouse.chances import chance, chance_given, is_splits, level, level_papers, shares, splits
from rulehouse.closings import are_closings, closings, facts_apart
from rulehouse.company import (adds_nothing, company, holds, is_company, lean, may_stand_for, pair_against, parting_pair,
                               too_many)
from rulehouse.costs import cheapest, cost_line, costs, tree_cost
from rulehouse.disks import Disk, after, come_back, settled
from rulehouse.errors import HouseError
from rulehouse.facts import Facts
from rulehouse.floating import floating, floating_ring, is_floating
from rulehouse.foldings import foldings, is_folding, least_part
from rulehouse.folds import Folds, fold_levels, fold_ring, folded, is_fold_ring
from rulehouse.following import heights, steps_for, what_follows
from rulehouse.goals import answers, chain_to, goal_rules, goal_table, is_chain, is_goal_table, shows_not
from rulehouse.histories import (clash_ring, clashes, is_clash_ring, is_order_of, order_of, seen_orders, sources,
                                 spread)
from rulehouse.houses import House
from rulehouse.housetexts import promise_line, write_deeds, write_house
from rulehouse.indexes import facts_on, is_index, put_fact, take_fact
from rulehouse.joins import joined, plain_form, unfolded
from rulehouse.kept import Kept, is_kept
from rulehouse.levels import by_levels, is_not_ring, levels, ring_through_not
from rulehouse.locks import are_calm, calm_states, way_to_stick
from rulehouse.madeways import fresh_matches, ways
from rulehouse.matching import answers_of, is_match, many_matches, matches
from rulehouse.matters import matters
from rulehouse.merging import merged, odd_ones
from rulehouse.orders import best_order, join_sizes, summed_out
from rulehouse.parts import is_atom, is_body, is_fact, is_part, is_rule, letters_of, put_in
from rulehouse.polynomials import polynomial, polynomial_to, worth
from rulehouse.programs import least_rules, parting_facts, rule_tree, rule_world, spare_rules, unfollowed
from rulehouse.promised import falling_out, is_falling_out, promised
from rulehouse.promises import Promises
from rulehouse.repairs import broken, in_repairs, left_out, quarrels, repair_papers, repairs
from rulehouse.retelling import not_retold, retold
from rulehouse.reasons import blame, is_least_break, is_least_set, least_breaks, least_sets, role
from rulehouse.rules import Rules, hangs_on, is_in_ring, rings
from rulehouse.steady import is_no_world_with, is_steady, no_world_with, steady_worlds, world_with
from rulehouse.stores import facts_at
from rulehouse.texts import line_of, write_facts, write_rules
from rulehouse.threes import argued, argument, is_halves, open_facts, sure_facts, turns, verdict
from rulehouse.treecounts import plain_trees, round_tree, tree_count, trees_with
from rulehouse.trees import is_tree, least_steps, tree_of
from rulehouse.unfoldings import expansions, first_apart, slow_facts
from rulehouse.versions import outcome, straight, ties, twist
from rulehouse.ways import is_way_paper, parting_way, way_paper, word_machine, words_of
from rulehouse.wishes import bars, grants, is_bars, joint_sets, lean_changes, least_changes
from rulehouse.worlds import is_world, world_without, worlds_within
from rulehouse.worths import are_worths, worths_for

WAY = [[["way", "X", "Y"], [["e", "X", "Y"]]], [["way", "X", "Z"], [["e", "X", "Y"], ["way", "Y", "Z"]]]]
NOTS = [[["p", "X"], [["q", "X"], ["not", ["r", "X"]]]], [["r", "X"], [["q", "X"], ["not", ["p", "X"]]]],
        [["s"], [["unlike", 1, 2]]]]
FLAT = [[["p", "X"], [["q", "X"], ["not", ["r", "X"]]]], [["s"], [["p", "X"]]]]
EDGES = [["e", "a", "b"], ["e", "b", "c"], ["q", 1]]
BODY = [["e", "X", "Y"], ["e", "Y", "Z"], ["unlike", "X", 1], ["not", ["q", "X"]]]
PLAIN = [["e", "X", "Y"], ["e", "Y", "Z"], ["q", "W"]]
TREE = [["way", "a", "b"], 0, [[["e", "a", "b"], None, []]]]
GOAL = ["way", "b", "X"]
TABLE = {("zz",): [["zz"]]}
ODD = [[["o"], [["not", ["o"]]]]]
CHANCES = {("e", "a", "b"): [1, 2], ("e", "b", "c"): [2, 4], ("q", 1): [1, 1]}
PROMISES = [[[["e", "X", "Y"]], [["e", "Y", "X"]]], [[["e", "X", "Y"], ["e", "Y", "Z"]], [["e", "X", "Z"]]],
            [[["e", "X", "Y"], ["not", ["f", "X"]]], [["e", "X", "X"]]]]
PRICES = {("e", "a", "b"): 3, ("e", "b", "c"): 1, ("q", 1): 0}
FOLDS = [["count", ["n", "X"], ["Y"], [["way", "X", "Y"], ["not", ["q", "X"]]]], ["least", ["m"], ["X", "Y"], [["e", "X", "Y"]]]]
RING_FOLDS = [["count", ["e", "X"], ["Y"], [["way", "X", "Y"]]]]
WANTED = [[[["way", "X", "Y"]], [["e", "X", "Y"]]], [[["way", "X", "Y"]], [["way", "Y", "X"]]]]
DENIALS = [[["way", "X", "Y"], ["way", "Y", "Z"], ["unlike", "X", "Z"]]]
HISTORY = [["read", "a", "x"], ["write", "b", "x"], ["write", "a", "y"], ["read", "b", "y"], ["done", "b"], ["done", "a"]]
RING = [["read", "a", "x"], ["write", "b", "x"], ["read", "b", "y"], ["write", "a", "y"], ["done", "a"], ["done", "b"]]
PLAN = {"b": [["read", "y"], ["write", "x"]], "a": [["read", "x"], ["write", "y"]]}
CALM = {"a": [["read", "x"]], "b": [["write", "x"]]}
TIMES = [["begin", "a"], ["begin", "b"], ["end", "b"], ["end", "a"]]
DISK = [{0: [1, "a"]}, {0: [1, ["b"]]}, [["set", "t", 0, [1, "a"], ["b"]]]]
LEAVES = {0: ["fork", 1, ["p", 2], 2], 1: ["leaf", ["p", 0], ["p", 1]], 2: ["leaf", ["p", 2], ["p", 3]]}
HOUSE = [["lay", "r", WAY[0]], ["put", EDGES[0]], ["watch", "w", WAY[0]], ["promise", "p", [[["e", "X", "X"]], []]]]
COMPANY = [Rules([]), Facts([]), Facts([["p"]])]
# Calls whose arguments are of one kind in name and of another one here.
ATOMS = (joined, foldings, is_folding)
PROMISING = (promised, falling_out, is_falling_out)
GIVEN = (role, blame, cost_line)

# Each call with its arguments under their names; Rules and Facts are made of lists anew each time.
CALLS = [
    (is_atom, {"thing": ["p", "X"]}), (is_fact, {"thing": ["p", 1]}), (is_part, {"thing": ["not", ["p"]]}),
    (is_body, {"thing": BODY}), (is_rule, {"thing": WAY[1]}), (letters_of, {"body": BODY}),
    (put_in, {"body": BODY, "calls": {"X": "a"}}), (hangs_on, {"rules": WAY, "relation": "way"}), (rings, {"rules": NOTS}),
    (is_in_ring, {"rules": NOTS, "relation": "p"}), (plain_form, {"rule": WAY[1]}),
    (joined, {"one": ["p", "X", "a"], "other": ["p", "Y", "Y"]}), (unfolded, {"rules": WAY, "number": 1, "index": 1}),
    (line_of, {"thing": WAY[1]}), (line_of, {"thing": BODY}), (write_facts, {"facts": EDGES}), (write_rules, {"rules": NOTS}),
    (matches, {"facts": EDGES, "body": BODY}), (many_matches, {"facts": EDGES, "body": BODY}),
    (is_match, {"facts": EDGES, "body": BODY, "thing": {"X": "a", "Y": "b", "Z": "c"}}),
    (answers_of, {"facts": EDGES, "question": WAY[0]}), (join_sizes, {"facts": EDGES, "body": PLAIN, "order": [2, 0, 1]}),
    (best_order, {"facts": EDGES, "body": PLAIN}), (summed_out, {"facts": EDGES, "body": PLAIN, "letters": ["Y"]}),
    (foldings, {"one": PLAIN, "other": PLAIN}),
    (is_folding, {"one": PLAIN, "other": PLAIN, "thing": {"X": "X", "Y": "Y", "Z": "Z", "W": "W"}}),
    (least_part, {"question": [["h", "X"], PLAIN]}), (what_follows, {"rules": WAY, "facts": EDGES}),
    (heights, {"rules": WAY, "facts": EDGES}), (steps_for, {"rules": WAY, "facts": EDGES, "fact": ["way", "a", "c"]}),
    (is_tree, {"rules": WAY, "facts": EDGES, "fact": ["way", "a", "b"], "thing": TREE}),
    (least_steps, {"rules": WAY, "facts": EDGES, "fact": ["way", "a", "c"], "most": 3}),
    (tree_of, {"rules": WAY, "facts": EDGES, "fact": ["way", "a", "c"], "most": None}),
    (is_world, {"rules": WAY, "facts": EDGES, "thing": None}),
    (world_without, {"rules": WAY, "facts": EDGES, "fact": ["way", "c", "a"]}),
    (worlds_within, {"rules": WAY, "facts": [], "most": EDGES}),
    (answers, {"rules": WAY, "facts": EDGES, "goal": GOAL}), (goal_table, {"rules": WAY, "facts": EDGES, "goal": GOAL}),
    (is_goal_table, {"rules": WAY, "facts": EDGES, "goal": ["zz"], "thing": TABLE}),
    (shows_not, {"rules": WAY, "facts": EDGES, "fact": ["zz"], "thing": {("zz",): []}}),
    (chain_to, {"rules": WAY, "facts": EDGES, "goal": GOAL, "call": ["way", "c", None]}),
    (is_chain, {"rules": WAY, "facts": EDGES, "goal": GOAL, "call": ["way", "c", None], "thing": [[1, [["e", "b", "c"]]]]}),
    (goal_rules, {"rules": WAY, "goal": GOAL}), (wide_facts, {"rules": NOTS, "facts": EDGES}),
    (cases, {"rules": NOTS, "facts": EDGES}), (behind, {"rules": NOTS, "facts": EDGES, "seen": [["p", 1]]}),
    (levels, {"rules": FLAT}), (ring_through_not, {"rules": NOTS}),
    (is_not_ring, {"rules": NOTS, "thing": [[0, 1], [1, 1]]}), (by_levels, {"rules": FLAT, "facts": EDGES}),
    (turns, {"rules": NOTS, "facts": EDGES}), (sure_facts, {"rules": NOTS, "facts": EDGES}),
    (open_facts, {"rules": NOTS, "facts": EDGES}), (verdict, {"rules": NOTS, "facts": EDGES, "fact": ["p", 1]}),
    (argument, {"rules": FLAT, "facts": EDGES, "fact": ["p", 1]}),
    (argued, {"rules": FLAT, "facts": EDGES, "fact": ["p", 1], "thing": [["sure", 0, {"X": 1}]]}),
    (is_halves, {"rules": FLAT, "facts": EDGES, "low": EDGES + [["p", 1], ["s"]], "high": EDGES + [["s"], ["p", 1]]}),
    (is_steady, {"rules": NOTS, "facts": EDGES, "thing": EDGES + [["p", 1], ["s"]]}),
    (steady_worlds, {"rules": NOTS, "facts": EDGES}),
    (world_with, {"rules": NOTS, "facts": EDGES, "have": [["r", 1]], "lack": [["p", 1]]}),
    (no_world_with, {"rules": ODD, "facts": EDGES, "have": [], "lack": [["z"]]}),
    (is_no_world_with, {"rules": ODD, "facts": EDGES, "have": [], "lack": [],
                        "thing": ["split", ["o"], ["clash"], ["clash"]]}),
    (holds, {"rules": FLAT, "here": EDGES, "there": EDGES + [["p", 1], ["s"], ["r", 1]]}),
    (may_stand_for, {"one": FLAT, "other": FLAT[::-1]}), (adds_nothing, {"rules": WAY, "more": WAY[:1]}),
    (pair_against, {"rules": FLAT, "more": WAY}), (parting_pair, {"one": FLAT, "other": WAY}),
    (company, {"one": FLAT, "other": WAY}), (is_company, {"one": [[["p"], []]], "other": [], "thing": COMPANY}),
    (too_many, {"rules": WAY + WAY}), (lean, {"rules": WAY + WAY}), (fold_levels, {"rules": WAY, "folds": FOLDS}),
    (fold_ring, {"rules": WAY, "folds": RING_FOLDS}), (is_fold_ring, {"rules": WAY, "folds": RING_FOLDS,
                                                                    "thing": [["fold", 0, 0], ["rule", 0, 0]]}),
    (folded, {"facts": EDGES, "rules": WAY, "folds": FOLDS}),
    (tree_cost, {"facts": EDGES, "rules": WAY, "prices": PRICES, "fees": [1, 2], "thing": TREE}),
    (costs, {"facts": EDGES, "rules": WAY, "prices": PRICES, "fees": [1, 2]}),
    (cheapest, {"facts": EDGES, "rules": WAY, "prices": PRICES, "fees": [1, 2], "fact": ["way", "a", "c"]}),
    (cost_line, {"facts": EDGES, "rules": WAY, "prices": PRICES, "fees": [1, 2], "fact": ["way", "a", "c"],
                 "given": ["e", "a", "b"]}),
    (are_worths, {"facts": EDGES, "rules": WAY, "prices": PRICES, "fees": [1, 2], "thing": {("way", "a", "b"): 1}}),
    (worths_for, {"facts": EDGES, "rules": WAY, "prices": PRICES, "fees": [1, 2], "fact": ["way", "a", "c"]}),
    (least_sets, {"rules": WAY, "facts": EDGES, "fact": ["way", "a", "c"]}),
    (is_least_set, {"rules": WAY, "facts": EDGES, "fact": ["way", "a", "c"], "thing": [["e", "b", "c"], ["e", "a", "b"]]}),
    (least_breaks, {"rules": WAY, "facts": EDGES, "fact": ["way", "a", "c"]}),
    (is_least_break, {"rules": WAY, "facts": EDGES, "fact": ["way", "a", "c"], "thing": [["e", "b", "c"]]}),
    (role, {"rules": WAY, "facts": EDGES, "fact": ["way", "a", "c"], "given": ["e", "a", "b"]}),
    (blame, {"rules": WAY, "facts": EDGES, "fact": ["way", "a", "c"], "given": ["e", "a", "b"]}),
    (tree_count, {"rules": WAY, "facts": EDGES, "fact": ["way", "a", "c"], "most": 2}),
    (round_tree, {"rules": [[["q", "X"], [["q", "X"]]]], "facts": EDGES, "fact": ["q", 1]}),
    (plain_trees, {"rules": WAY, "facts": EDGES, "fact": ["way", "a", "c"]}),
    (trees_with, {"rules": WAY, "facts": EDGES, "fact": ["way", "a", "c"],
                  "product": [[["e", "b", "c"], 1], [["e", "a", "b"], 1]]}),
    (polynomial, {"rules": WAY, "facts": EDGES, "fact": ["way", "a", "c"]}),
    (polynomial_to, {"rules": WAY, "facts": EDGES, "fact": ["way", "a", "c"], "height": 2}),
    (worth, {"polynomial": {((("q", 1), 2),): 3}, "worths": {("q", 1): 4}}),
    (level, {"rules": WAY, "facts": EDGES, "fact": ["way", "a", "c"], "levels": PRICES}),
    (level_papers, {"rules": WAY, "facts": EDGES, "fact": ["way", "a", "c"], "levels": PRICES}),
    (chance, {"rules": WAY, "facts": EDGES, "fact": ["way", "a", "c"], "chances": CHANCES}),
    (chance_given, {"rules": WAY, "facts": EDGES, "fact": ["way", "a", "c"], "chances": CHANCES, "follow": [["q", 1]],
                    "lack": [["zz"]]}),
    (splits, {"rules": WAY, "facts": EDGES, "fact": ["way", "a", "c"]}),
    (is_splits, {"rules": WAY, "facts": [["e", "a", "b"]], "fact": ["way", "a", "b"],
                 "thing": [[[[["e", "a", "b"]], []]], [[[], [["e", "a", "b"]]]]]}),
    (shares, {"rules": WAY, "facts": EDGES, "fact": ["way", "a", "c"]}),
    (rule_tree, {"rules": WAY, "rule": [["way", "X", "Y"], [["e", "X", "Y"], ["q", "X"]]]}),
    (rule_world, {"rules": WAY, "rule": [["way", "X", "Y"], [["e", "Y", "X"]]]}),
    (unfollowed, {"one": [[["p"], []]], "other": WAY}), (parting_facts, {"one": WAY, "other": WAY[1:]}),
    (spare_rules, {"rules": WAY + WAY}), (least_rules, {"rules": WAY + WAY}), (expansions, {"rules": WAY, "height": 2}),
    (slow_facts, {"rules": WAY, "many": 2}), (first_apart, {"one": [[["p", "X"], [["way", "X", "Y"]]]], "other": WAY}),
    (words_of, {"rules": WAY, "relation": "way", "most": 3}), (word_machine, {"rules": WAY, "relation": "way"}),
    (parting_way, {"one": WAY, "other": WAY[:1], "relation": "way"}),
    (way_paper, {"one": WAY[:1], "other": WAY, "relation": "way"}),
    (is_way_paper, {"one": WAY[:1], "other": WAY, "relation": "way", "thing": [[0, 0], [1, 1]]}),
    (retold, {"rules": WAY, "relation": "way", "views": ["way"]}),
    (not_retold, {"rules": WAY + [[["v", "X", "Y"], [["f", "X", "Y"]]]], "relation": "way", "views": ["v"]}),
    (closings, {"promises": PROMISES, "number": 2}), (facts_apart, {"promises": PROMISES, "number": 0}),
    (are_closings, {"promises": [[[["p"]], [["q"]]], [[["p"]], [["q"]]]], "number": 1,
                    "thing": [[{}, ["split", 0, {}, [["shut", ["q"]]]]]]}),
    (done_deed, {"facts": EDGES, "deed": [[], [["q", 1]], [["q", 2]]]}),
    (breaking, {"promises": PROMISES, "kind": [[["e", "X", "Y"]], [["q", 1]], [["e", "Y", "c"]]], "number": 0}),
    (safe_closings, {"promises": PROMISES, "kind": [[["e", "X", "Y"]], [["q", 1]], [["e", "X", "Y"]]], "number": 0}),
    (are_safe_closings, {"promises": [[[["p"]], [["q"]]]], "kind": [[], [], [["q"]]], "number": 0, "thing": []}),
    (promised, {"rules": WAY, "given": PROMISES[:1], "wanted": WANTED}),
    (falling_out, {"rules": WAY, "given": PROMISES[:1], "wanted": WANTED}),
    (is_falling_out, {"rules": [[["p"], []]], "given": [], "wanted": [[[["p"]], []], [[["p"]], [["q"]]]],
                      "thing": [[0, 0, Facts([]), {}, {}], [1, 0, Facts([]), {}, {}]]}),
    (ways, {"rules": WAY, "facts": EDGES, "fact": ["way", "a", "b"]}),
    (fresh_matches, {"rules": FLAT, "number": 0, "old": [["r", 1]], "new": EDGES}),
    (is_kept, {"rules": FLAT, "facts": [["q", 1]], "thing": {("q", 1): 0, ("p", 1): 1, ("s",): 2}}),
    (floating, {"rules": [[["p"], [["p"]]], [["p"], [["e", "X", "Y"]]]], "facts": EDGES[:1], "some": EDGES[:1]}),
    (floating_ring, {"rules": [[["p"], [["p"]]], [["p"], [["e", "X", "Y"]]]], "facts": EDGES[:1], "some": EDGES[:1]}),
    (is_floating, {"rules": [[["p"], [["p"]]]], "facts": EDGES, "thing": [["p"]]}),
    (merged, {"base": EDGES, "one": EDGES[1:], "other": EDGES[:2] + [["q", 7]]}),
    (odd_ones, {"rules": FLAT, "base": [["q", 1], ["q", 2]], "one": [["q", 1]], "other": [["q", 2]]}),
    (matters, {"rules": FLAT[1:], "relation": "s", "fact": ["p", 1]}),
    (grants, {"rules": WAY, "facts": EDGES, "wanted": [["way", "c", "a"]], "barred": [["q", 1]], "menu": [["e", "c", "a"]],
              "thing": [[["q", 1]], [["e", "c", "a"]]]}),
    (least_changes, {"rules": WAY, "facts": EDGES, "wanted": [["way", "c", "a"]], "barred": [["q", 1]], "menu": [["e", "c", "a"]]}),
    (lean_changes, {"rules": WAY, "facts": EDGES, "wanted": [["way", "c", "a"]], "barred": [["q", 1]], "menu": [["e", "c", "a"]]}),
    (joint_sets, {"rules": WAY, "facts": EDGES, "wanted": [["way", "a", "c"], ["q", 1]]}),
    (bars, {"rules": WAY, "facts": EDGES, "wanted": [["way", "a", "c"]], "barred": [["way", "b", "c"]], "menu": []}),
    (is_bars, {"rules": WAY, "facts": EDGES, "wanted": [["q", 1]], "barred": [["q", 1]], "menu": [],
               "thing": [[[["q", 1]], [["q", 1], None, []]]]}),
    (broken, {"rules": WAY, "facts": EDGES, "denials": DENIALS}), (quarrels, {"rules": WAY, "facts": EDGES, "denials": DENIALS}),
    (left_out, {"rules": WAY, "facts": EDGES, "denials": DENIALS}), (repairs, {"rules": WAY, "facts": EDGES, "denials": DENIALS}),
    (in_repairs, {"rules": WAY, "facts": EDGES, "denials": DENIALS, "fact": ["way", "a", "b"]}),
    (repair_papers, {"rules": WAY, "facts": EDGES, "denials": DENIALS, "fact": ["way", "a", "b"]}),
    (sources, {"history": HISTORY}), (clashes, {"history": HISTORY}), (order_of, {"history": HISTORY}),
    (clash_ring, {"history": RING}), (is_order_of, {"history": HISTORY, "thing": ["a", "b"]}),
    (is_clash_ring, {"history": RING, "thing": [[0, 1], [2, 3]]}), (seen_orders, {"history": HISTORY}),
    (spread, {"history": [["read", "a", "way"]], "rules": WAY}), (way_to_stick, {"plan": PLAN}), (calm_states, {"plan": CALM}),
    (are_calm, {"plan": CALM, "thing": [[0, 0], [0, 1], [1, 0], [1, 1]]}), (outcome, {"plan": PLAN, "times": TIMES}),
    (ties, {"plan": PLAN, "times": TIMES}), (straight, {"plan": CALM, "times": TIMES}), (twist, {"plan": PLAN, "times": TIMES}),
    (settled, {"disk": DISK}), (come_back, {"disk": DISK}), (after, {"disk": DISK, "writes": [["log", ["seal", "t"]]]}),
    (is_index, {"contents": LEAVES, "width": 3}), (facts_on, {"contents": LEAVES, "width": 4}),
    (put_fact, {"contents": LEAVES, "width": 3, "fact": ["p", 7]}), (take_fact, {"contents": LEAVES, "width": 3, "fact": ["p", 1]}),
    (facts_at, {"disk": [{0: ["leaf", ["p", 1]]}, {0: [0, ["leaf", ["p", 1]]]}, []], "width": 5}),
    (promise_line, {"promise": PROMISES[2]}), (write_house, {"house": HOUSE}), (write_deeds, {"house": HOUSE}),
    (looks, {"promises": PROMISES, "deed": [[], [], [["e", 1, 2]]]}),
]
KIND_OF = {"rules": Rules, "facts": Facts, "seen": Facts, "most": Facts, "low": Facts, "high": Facts, "have": Facts,
           "lack": Facts, "here": Facts, "there": Facts, "one": Rules, "other": Rules, "more": Rules, "folds": Folds,
           "promises": Promises, "given": Promises, "wanted": Promises, "old": Facts, "new": Facts, "base": Facts}


def swapped(thing):
    """The same with tuples for lists at every depth."""
    if isinstance(thing, list):
        return tuple([swapped(part) for part in thing])
    if isinstance(thing, dict):
        return {key: swapped(worth) for key, worth in thing.items()}
    return thing


def made(call, name, thing):
    if name == "disk":
        return Disk(*thing)
    if name == "house":
        house = House()
        house.do(thing)
        return house
    if name == "thing" and call is is_steady:
        return Facts(thing)
    if (name == "lack" and call is chance_given) or (name == "wanted" and call not in PROMISING) or (name == "given" and call in GIVEN):
        return thing
    if name in ("one", "other") and call in (merged, odd_ones):
        return Facts(thing)
    if name in KIND_OF and isinstance(thing, (list, tuple)) and not (call in ATOMS and name in ("one", "other")):
        return KIND_OF[name](thing)
    return thing


def plain(thing):
    """A returned object with the sets and rules in it told as lists."""
    if isinstance(thing, Disk):
        return ["Disk", plain([thing.first(), thing.pages(), thing.log()])]
    if isinstance(thing, (Facts, Rules, Folds, Promises)):
        return [type(thing).__name__, thing.listed()]
    if isinstance(thing, tuple):
        return tuple([plain(part) for part in thing])
    if isinstance(thing, list):
        return [plain(part) for part in thing]
    if isinstance(thing, dict):
        return [(plain(key), plain(worth)) for key, worth in thing.items()]
    return thing


def spoil(thing):
    """Changes all lists and dicts of a returned object."""
    if isinstance(thing, (list, tuple)):
        for part in thing:
            spoil(part)
    if isinstance(thing, list):
        thing.append("spoiled")
    if isinstance(thing, dict):
        for part in thing.values():
            spoil(part)
        thing["spoiled"] = 1


class Conventions(unittest.TestCase):
    def test_by_names_with_lists_and_with_tuples(self):
        for call, told in CALLS:
            arguments = copy.deepcopy(told)
            by_name = plain(call(**{name: made(call, name, thing) for name, thing in arguments.items()}))
            by_place = plain(call(*[made(call, name, thing) for name, thing in arguments.items()]))
            by_tuples = plain(call(*[made(call, name, swapped(thing)) for name, thing in arguments.items()]))
            self.assertEqual((by_name, by_tuples), (by_place, by_place), call)
            self.assertEqual(arguments, told, call)
            self.assertNotIn(by_name, (None, False), call) if call is not is_world else None

    def test_what_is_returned_is_new_each_time(self):
        for call, told in CALLS:
            arguments = [made(call, name, thing) for name, thing in copy.deepcopy(told).items()]
            first = call(*arguments)
            shown = plain(first)
            spoil(first)
            self.assertEqual(plain(call(*arguments)), shown, call)

    def test_sets_and_rules_are_the_same_behind_all_calls(self):
        rules, facts = Rules(WAY), Facts(EDGES)
        for call, told in CALLS:
            arguments = {name: made(call, name, thing) for name, thing in told.items()}
            for name, thing in (("rules", rules), ("facts", facts)):
                if name in arguments and told[name] in (WAY, EDGES):
                    arguments[name] = thing
            call(**arguments)
        self.assertEqual((rules, facts), (Rules(WAY), Facts(EDGES)))

    def test_rules_that_were_asked_ahead_tell_the_same(self):
        shared = {}
        for calls in (CALLS, CALLS[::-1]):
            for call, told in calls:
                fresh = plain(call(*[made(call, name, thing) for name, thing in told.items()]))
                arguments = {name: made(call, name, thing) for name, thing in told.items()}
                for name, thing in told.items():
                    if isinstance(arguments[name], Rules):
                        arguments[name] = shared.setdefault(str(thing), arguments[name])
                self.assertEqual(plain(call(**arguments)), fresh, call)
                if "facts" in told and isinstance(arguments["facts"], Facts):
                    others = {**arguments, "facts": Facts(told["facts"][:1])}
                    try:
                        call(**others)
                    except HouseError:
                        pass
                    self.assertEqual(plain(call(**arguments)), fresh, call)

    def test_a_call_that_raises_changes_nothing(self):
        facts, rules = Facts(EDGES), Rules(WAY)
        for call in (lambda: rules | Rules([(("e",), [])]), lambda: rules.without(7), lambda: put_in(BODY, {"X": None}),
                     lambda: tree_of(rules, facts, ("way", "a", "b"), -1), lambda: matches(facts, [("unlike", "X", 1)])):
            self.assertRaises(HouseError, call)
        self.assertEqual((facts, rules), (Facts(EDGES), Rules(WAY)))
        self.assertEqual(BODY[0], ["e", "X", "Y"])

    def test_free_answers_hang_on_what_is_asked_alone(self):
        forward, backward = Facts(EDGES), Facts(EDGES[::-1] + EDGES)
        for call, rest in ((tree_of, (("way", "a", "c"),)), (chain_to, (GOAL, ("e", "c", None)))):
            self.assertEqual(call(Rules(WAY), forward, *rest), call(Rules(swapped(WAY)), backward, *rest))


if __name__ == "__main__":
    unittest.main()
