"""The interface: names, parameters, and where each function, class and method is defined."""

import ast
import importlib
import inspect
import unittest
from pathlib import Path

FOLDER = Path(__file__).resolve().parent.parent / "rulehouse"
FUNCTIONS = {
    "names": ["is_name(thing)", "is_thing(thing)", "is_letter(thing)", "is_term(thing)"],
    "parts": ["is_atom(thing)", "is_fact(thing)", "is_part(thing)", "is_body(thing)", "is_rule(thing)",
              "letters_of(body)", "put_in(body, calls)"],
    "rules": ["hangs_on(rules, relation)", "rings(rules)", "is_in_ring(rules, relation)"],
    "joins": ["plain_form(rule)", "joined(one, other)", "unfolded(rules, number, index)"],
    "texts": ["line_of(thing)", "fact_in(line)", "rule_in(line)", "body_in(line)", "write_facts(facts)",
              "read_facts(text)", "write_rules(rules)", "read_rules(text)"],
    "matching": ["matches(facts, body)", "many_matches(facts, body)", "is_match(facts, body, thing)",
                 "answers_of(facts, question)"],
    "orders": ["join_sizes(facts, body, order)", "best_order(facts, body)", "summed_out(facts, body, letters)"],
    "foldings": ["foldings(one, other)", "is_folding(one, other, thing)", "least_part(question)"],
    "following": ["what_follows(rules, facts)", "heights(rules, facts)", "steps_for(rules, facts, fact)"],
    "trees": ["is_tree(rules, facts, fact, thing)", "least_steps(rules, facts, fact, most=None)",
              "tree_of(rules, facts, fact, most=None)"],
    "worlds": ["is_world(rules, facts, thing)", "world_without(rules, facts, fact)", "worlds_within(rules, facts, most)"],
    "goals": ["answers(rules, facts, goal)", "goal_table(rules, facts, goal)", "is_goal_table(rules, facts, goal, thing)",
              "shows_not(rules, facts, fact, thing)", "chain_to(rules, facts, goal, call)",
              "is_chain(rules, facts, goal, call, thing)", "goal_rules(rules, goal)"],
    "cases": ["wide_facts(rules, facts)", "cases(rules, facts)", "behind(rules, facts, seen)"],
    "levels": ["levels(rules)", "ring_through_not(rules)", "is_not_ring(rules, thing)", "by_levels(rules, facts)"],
}
CLASSES = {
    ("facts", "Facts", "facts"): ["listed(self)", "of(self, relation, many)", "things(self)", "relations(self)",
                                  "is_within(self, other)", "__contains__", "__len__", "__or__", "__and__", "__sub__",
                                  "__eq__"],
    ("rules", "Rules", "rules"): ["listed(self)", "made(self)", "given(self)", "about(self, relation)",
                                  "without(self, number)", "__len__", "__or__", "__eq__"],
}


def defined_in(name):
    return [node.name for node in ast.parse((FOLDER / (name + ".py")).read_text()).body
            if isinstance(node, (ast.FunctionDef, ast.ClassDef))]


class Interface(unittest.TestCase):
    def test_functions(self):
        for name, functions in FUNCTIONS.items():
            module = importlib.import_module("rulehouse." + name)
            for told in functions:
                word = told.split("(")[0]
                self.assertIn(word, defined_in(name))
                self.assertEqual(word + str(inspect.signature(getattr(module, word))), told)

    def test_classes(self):
        for (name, word, parameter), methods in CLASSES.items():
            self.assertIn(word, defined_in(name))
            made = getattr(importlib.import_module("rulehouse." + name), word)
            self.assertEqual(str(inspect.signature(made)), "(" + parameter + ")")
            for told in methods:
                method = told.split("(")[0]
                self.assertIn(method, vars(made))
                if "(" in told:
                    self.assertEqual(method + str(inspect.signature(vars(made)[method])), told)


if __name__ == "__main__":
    unittest.main()
