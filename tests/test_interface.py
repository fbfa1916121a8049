"""The interface: names, parameters, and where each function, class and method is defined."""

import ast
import importlib
import inspect
import unittest
from pathlib import Path

FOLDER = Path(__file__).resolve().parent.parent / "rulehouse"
FUNCTIONS = {
    "names": ["is_name(thing)", "is_thing(thing)", "is_letter(thing)", "is_term(thing)"],
    "parts": ["is_atom(thing)", "is_fact(thing)", "is_part(thing)", "is_body(thing)", "is_rule(thing)",
              "letters_of(body)", "put_in(body, calls)"],
    "rules": ["hangs_on(rules, relation)", "rings(rules)", "is_in_ring(rules, relation)"],
    "joins": ["plain_form(rule)", "joined(one, other)", "unfolded(rules, number, index)"],
    "texts": ["line_of(thing)", "fact_in(line)", "rule_in(line)", "body_in(line)", "write_facts(facts)",
              "read_facts(text)", "write_rules(rules)", "read_rules(text)"],
    "matching": ["matches(facts, body)", "many_matches(facts, body)", "is_match(facts, body, thing)",
                 "answers_of(facts, question)"],
    "orders": ["join_sizes(facts, body, order)", "best_order(facts, body)", "summed_out(facts, body, letters)"],
    "foldings": ["foldings(one, other)", "is_folding(one, other, thing)", "least_part(question)"],
    "following": ["what_follows(rules, facts)", "heights(rules, facts)", "steps_for(rules, facts, fact)"],
    "trees": ["is_tree(rules, facts, fact, thing)", "least_steps(rules, facts, fact, most=None)",
              "tree_of(rules, facts, fact, most=None)"],
    "worlds": ["is_world(rules, facts, thing)", "world_without(rules, facts, fact)", "worlds_within(rules, facts, most)"],
    "goals": ["answers(rules, facts, goal)", "goal_table(rules, facts, goal)", "is_goal_table(rules, facts, goal, thing)",
              "shows_not(rules, facts, fact, thing)", "chain_to(rules, facts, goal, call)",
              "is_chain(rules, facts, goal, call, thing)", "goal_rules(rules, goal)"],
    "cases": ["wide_facts(rules, facts)", "cases(rules, facts)", "behind(rules, facts, seen)"],
    "threes": ["turns(rules, facts)", "sure_facts(rules, facts)", "open_facts(rules, facts)", "verdict(rules, facts, fact)",
               "argument(rules, facts, fact)", "argued(rules, facts, fact, thing)", "is_halves(rules, facts, low, high)"],
    "steady": ["is_steady(rules, facts, thing)", "steady_worlds(rules, facts)", "world_with(rules, facts, have, lack)",
               "no_world_with(rules, facts, have, lack)", "is_no_world_with(rules, facts, have, lack, thing)"],
    "company": ["holds(rules, here, there)", "may_stand_for(one, other)", "adds_nothing(rules, more)",
                "pair_against(rules, more)", "parting_pair(one, other)", "company(one, other)",
                "is_company(one, other, thing)", "too_many(rules)", "lean(rules)"],
    "folds": ["fold_levels(rules, folds)", "fold_ring(rules, folds)", "is_fold_ring(rules, folds, thing)",
              "folded(facts, rules, folds)"],
    "costs": ["tree_cost(facts, rules, prices, fees, thing)", "costs(facts, rules, prices, fees)",
              "cheapest(facts, rules, prices, fees, fact)", "cost_line(facts, rules, prices, fees, fact, given)"],
    "worths": ["are_worths(facts, rules, prices, fees, thing)", "worths_for(facts, rules, prices, fees, fact)"],
    "reasons": ["least_sets(rules, facts, fact)", "is_least_set(rules, facts, fact, thing)",
                "least_breaks(rules, facts, fact)", "is_least_break(rules, facts, fact, thing)",
                "role(rules, facts, fact, given)", "blame(rules, facts, fact, given)"],
    "treecounts": ["tree_count(rules, facts, fact, most=None)", "round_tree(rules, facts, fact)",
                   "plain_trees(rules, facts, fact)", "trees_with(rules, facts, fact, product)"],
    "polynomials": ["polynomial(rules, facts, fact)", "polynomial_to(rules, facts, fact, height)",
                    "worth(polynomial, worths)"],
    "chances": ["level(rules, facts, fact, levels)", "level_papers(rules, facts, fact, levels)",
                "chance(rules, facts, fact, chances)", "chance_given(rules, facts, fact, chances, follow, lack)",
                "splits(rules, facts, fact)", "is_splits(rules, facts, fact, thing)", "shares(rules, facts, fact)"],
    "programs": ["rule_tree(rules, rule)", "rule_world(rules, rule)", "unfollowed(one, other)", "parting_facts(one, other)",
                 "spare_rules(rules)", "least_rules(rules)"],
    "unfoldings": ["expansions(rules, height)", "slow_facts(rules, many)", "first_apart(one, other)"],
    "ways": ["words_of(rules, relation, most)", "word_machine(rules, relation)", "parting_way(one, other, relation)",
             "way_paper(one, other, relation)", "is_way_paper(one, other, relation, thing)"],
    "retelling": ["retold(rules, relation, views)", "not_retold(rules, relation, views)"],
    "closings": ["closings(promises, number)", "are_closings(promises, number, thing)", "facts_apart(promises, number)"],
    "breaking": ["done_deed(facts, deed)", "breaking(promises, kind, number)", "safe_closings(promises, kind, number)",
                 "are_safe_closings(promises, kind, number, thing)", "looks(promises, deed)"],
    "promised": ["promised(rules, given, wanted)", "falling_out(rules, given, wanted)",
                 "is_falling_out(rules, given, wanted, thing)"],
    "madeways": ["ways(rules, facts, fact)", "fresh_matches(rules, number, old, new)"],
    "kept": ["is_kept(rules, facts, thing)"],
    "floating": ["floating(rules, facts, some)", "is_floating(rules, facts, thing)", "floating_ring(rules, facts, some)"],
    "merging": ["merged(base, one, other)", "odd_ones(rules, base, one, other)"],
    "matters": ["matters(rules, relation, fact)"],
    "wishes": ["grants(rules, facts, wanted, barred, menu, thing)", "least_changes(rules, facts, wanted, barred, menu)",
               "lean_changes(rules, facts, wanted, barred, menu)", "joint_sets(rules, facts, wanted)",
               "bars(rules, facts, wanted, barred, menu)", "is_bars(rules, facts, wanted, barred, menu, thing)"],
    "repairs": ["broken(rules, facts, denials)", "quarrels(rules, facts, denials)", "left_out(rules, facts, denials)",
                "repairs(rules, facts, denials)", "in_repairs(rules, facts, denials, fact)",
                "repair_papers(rules, facts, denials, fact)"],
    "histories": ["sources(history)", "clashes(history)", "order_of(history)", "clash_ring(history)",
                  "is_order_of(history, thing)", "is_clash_ring(history, thing)", "seen_orders(history)",
                  "spread(history, rules)"],
    "locks": ["way_to_stick(plan)", "calm_states(plan)", "are_calm(plan, thing)"],
    "versions": ["outcome(plan, times)", "ties(plan, times)", "straight(plan, times)", "twist(plan, times)"],
    "disks": ["settled(disk)", "come_back(disk)", "after(disk, writes)"],
    "indexes": ["is_index(contents, width)", "facts_on(contents, width)", "put_fact(contents, width, fact)",
                "take_fact(contents, width, fact)"],
    "stores": ["facts_at(disk, width)"],
    "housetexts": ["promise_line(promise)", "promise_in(line)", "write_house(house)", "read_house(text)",
                   "write_deeds(house)", "read_deeds(text)"],
    "levels": ["levels(rules)", "ring_through_not(rules)", "is_not_ring(rules, thing)", "by_levels(rules, facts)"],
}
CLASSES = {
    ("facts", "Facts", "facts"): ["listed(self)", "of(self, relation, many)", "things(self)", "relations(self)",
                                  "is_within(self, other)", "__contains__", "__len__", "__or__", "__and__", "__sub__",
                                  "__eq__"],
    ("rules", "Rules", "rules"): ["listed(self)", "made(self)", "given(self)", "about(self, relation)",
                                  "without(self, number)", "__len__", "__or__", "__eq__"],
    ("folds", "Folds", "folds"): ["listed(self)", "__len__", "__eq__"],
    ("kept", "Kept", "rules, facts"): ["given(self)", "standing(self)", "numbers(self)", "change(self, put, take)",
                                       "version(self)", "given_at(self, version)", "back(self, version)"],
    ("locks", "Locks", "plan"): ["turn(self, dealing)", "state(self)", "held_by(self, dealing)", "waits_for(self, dealing)",
                                 "done_so_far(self)", "undo(self)"],
    ("disks", "Disk", "first, pages, log"): ["first(self)", "pages(self)", "log(self)", "__eq__"],
    ("engines", "Engine", "first"): ["write(self, dealing, page, content)", "seal(self, dealing)", "drop(self, dealing)",
                                     "log_out(self, many)", "page_out(self, page)", "content(self, page)", "open_ones(self)",
                                     "sealed(self)", "disk(self)"],
    ("stores", "Store", "width"): ["put(self, dealing, fact)", "take(self, dealing, fact)", "facts(self)", "contents(self)",
                                   "seal(self, dealing)", "drop(self, dealing)", "log_out(self, many)",
                                   "page_out(self, page)", "open_ones(self)", "sealed(self)", "disk(self)"],
    ("houses", "House", ""): ["do(self, steps)", "breaks(self, steps)", "given(self)", "standing(self)", "rules(self)",
                              "watchers(self)", "promises(self)", "answers(self, name)", "news(self, name)", "why(self, fact)",
                              "blocked(self, fact)", "count(self)", "undo(self)", "again(self)", "deeds(self)",
                              "at(self, number)", "trial(self, work)", "copy(self)", "__eq__"],
    ("promises", "Promises", "promises"): ["listed(self)", "all_broken(self, facts)", "__len__", "__eq__"],
}


def defined_in(name):
    return [node.name for node in ast.parse((FOLDER / (name + ".py")).read_text()).body
            if isinstance(node, (ast.FunctionDef, ast.ClassDef))]


class Interface(unittest.TestCase):
    def test_functions(self):
        for name, functions in FUNCTIONS.items():
            module = importlib.import_module("rulehouse." + name)
            for told in functions:
                word = told.split("(")[0]
                self.assertIn(word, defined_in(name))
                self.assertEqual(word + str(inspect.signature(getattr(module, word))), told)

    def test_classes(self):
        for (name, word, parameter), methods in CLASSES.items():
            self.assertIn(word, defined_in(name))
            made = getattr(importlib.import_module("rulehouse." + name), word)
            self.assertEqual(str(inspect.signature(made)), "(" + parameter + ")")
            for told in methods:
                method = told.split("(")[0]
                self.assertIn(method, vars(made))
                if "(" in told:
                    self.assertEqual(method + str(inspect.signature(vars(made)[method])), told)


if __name__ == "__main__":
    unittest.main()
