"""Why facts stand, and by which nots they do not."""

from rulehouse.finding import Pattern, Shelves, filled, patterns_of, sorted_matches
from rulehouse.following import calls_by_head
from rulehouse.kept import numbers_of
from rulehouse.madeways import ways_in


def _best_step(rules, shelves, numbers, fact):
    """The pair (number, facts) of a rule and the facts of its atoms by which a fact has its number."""
    for number, match in ways_in(rules, shelves, fact):
        pattern = patterns_of(rules)[number]
        calls = {**pattern.seeds, **match}
        below = tuple([filled(atom, calls) for atom in pattern.atoms])
        if 1 + max([numbers[other] for other in below], default=0) == numbers[fact]:
            return number, below
    return None


def tree_in(rules, given, standing, fact):
    """A tree, of as little height as can be, of a fact that stands."""
    numbers = numbers_of(rules, given, standing)
    shelves = Shelves(standing.listed())
    steps = {}
    left = [fact]
    while left:
        told = left.pop()
        if told not in steps:
            steps[told] = (None, ()) if numbers[told] == 0 else _best_step(rules, shelves, numbers, told)
            left.extend(steps[told][1])
    trees = {}
    for told in sorted(list(steps), key=lambda other: numbers[other]):
        number, below = steps[told]
        trees[told] = (told, number, tuple([trees[other] for other in below]))
    return trees[fact]


def _first_standing(rule, calls, shelves):
    """The index of the first not of a rule whose fact stands."""
    for index, part in enumerate(rule[1]):
        if part[0] == "not" and filled(part[1], calls) in shelves.known:
            return index
    return None


def blocks(rules, standing, fact):
    """The list of the triples (number, match, place) of matches that a not alone keeps from making a fact."""
    shelves = Shelves(standing.listed())
    found = []
    for number, rule in enumerate(rules.listed()):
        whole = patterns_of(rules)[number]
        calls = calls_by_head(whole, fact)
        if calls is not None:
            rest = Pattern([part for part in rule[1] if part[0] != "not"], rule[0])
            for match in sorted_matches(rest, shelves, {}, calls):
                found.append((number, match, _first_standing(rule, {**whole.seeds, **match}, shelves)))
    return found
