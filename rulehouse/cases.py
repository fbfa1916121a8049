"""Cases of rules with nots, and what comes of facts behind a set that is seen."""

from rulehouse.facts import Facts
from rulehouse.finding import Shelves, calls_by, filled, patterns_of, sorted_matches
from rulehouse.growing import grown, grown_steps


def _grown_wide(rules, facts):
    """All facts and the heads of all matches, nots being passed over, in any order."""
    return list(grown(patterns_of(rules), facts.listed(), {}))


def wide_facts(rules, facts):
    """The least set with all facts and the heads of matches in it, nots being passed over."""
    return Facts(_grown_wide(rules, facts))


def cases(rules, facts):
    """The list of all pairs (number, match) of rules and matches in wide, nots being passed over."""
    shelves = Shelves(_grown_wide(rules, facts))
    found = []
    for number, pattern in enumerate(patterns_of(rules)):
        for calls in sorted_matches(pattern, shelves, {}, pattern.seeds):
            found.append((number, calls))
    return found


def nots_by(pattern, facts):
    """The facts behind the nots of a body where its atoms become facts, each once."""
    if not pattern.nots:
        return ()
    calls = calls_by(pattern, facts)
    return tuple(list({filled(atom, calls): True for atom in pattern.nots}))


def wide_cases(patterns, facts):
    """The pair of the dict from all facts of wide to rounds, and the list of all cases.

    A case is told here as a triple (head, plain facts, not facts).
    """
    rounds, steps = grown_steps(patterns, facts)
    return rounds, [(head, below, nots_by(patterns[number], below)) for head, number, below in steps]


def behind(rules, facts, seen):
    """The least set with all facts and the heads of cases none of whose not facts is seen."""
    barred = {fact: True for fact in seen.listed()}
    return Facts(list(grown(patterns_of(rules), facts.listed(), barred)))
