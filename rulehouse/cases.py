"""Cases of rules with nots, and what comes of facts behind a set that is seen."""

from rulehouse.facts import Facts, facts_in_order
from rulehouse.finding import Shelves, patterns_of, sorted_matches
from rulehouse.growing import grown
from rulehouse.turning import kept_turning


def _grown_wide(rules, facts):
    """All facts and the heads of all matches, nots being passed over, in any order."""
    return list(grown(patterns_of(rules), facts.listed(), {}))


def wide_facts(rules, facts):
    """The least set with all facts and the heads of matches in it, nots being passed over."""
    return Facts(_grown_wide(rules, facts))


def cases(rules, facts):
    """The list of all pairs (number, match) of rules and matches in wide, nots being passed over."""
    shelves = Shelves(_grown_wide(rules, facts))
    found = []
    for number, pattern in enumerate(patterns_of(rules)):
        for calls in sorted_matches(pattern, shelves, {}, pattern.seeds):
            found.append((number, calls))
    return found


def behind(rules, facts, seen):
    """The least set with all facts and the heads of cases none of whose not facts is seen."""
    turning = kept_turning(rules, facts)
    # What is seen and not of wide can bar cases, too, and has no bit.
    bits = None if turning is None else turning.bits_of(seen.listed())
    if bits is not None:
        return facts_in_order(turning.facts_of(turning.behind(bits)))
    barred = {fact: True for fact in seen.listed()}
    return Facts(list(grown(patterns_of(rules), facts.listed(), barred)))
