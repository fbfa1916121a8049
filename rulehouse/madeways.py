"""Ways in which facts are made, and matches that are there in facts and were not in older ones."""

from rulehouse.errors import NoRule
from rulehouse.finding import Shelves, patterns_of, sorted_matches
from rulehouse.following import calls_by_head, checked_fact
from rulehouse.parts import filled_part
from rulehouse.rules import is_number_of


def ways_in(rules, shelves, fact):
    """The list of the pairs (number, match) by which rules make a fact of what shelves keep."""
    found = []
    for number, pattern in enumerate(patterns_of(rules)):
        calls = calls_by_head(pattern, fact)
        if calls is not None:
            found.extend([(number, match) for match in sorted_matches(pattern, shelves, shelves.known, calls)])
    return found


def ways(rules, facts, fact):
    """The list of all ways of a fact in facts, by numbers, then matches."""
    return ways_in(rules, Shelves(facts.listed()), checked_fact(fact))


def _place_of_odd(body, match, facts):
    """The index of the first part of a body that does not hold in facts by a match, None if all hold."""
    for index, part in enumerate(body):
        told = filled_part(part, match)
        if part[0] == "not":
            if told[1] in facts:
                return index
        elif part[0] != "unlike" and told not in facts:
            return index
    return None


def fresh_matches(rules, number, old, new):
    """The list of the pairs (match, place) of all matches of a rule's body in new facts that are none in old ones."""
    listed = rules.listed()
    if not is_number_of(number, listed):
        raise NoRule(number)
    pattern = patterns_of(rules)[number]
    shelves = Shelves(new.listed())
    found = []
    for match in sorted_matches(pattern, shelves, shelves.known, pattern.seeds):
        place = _place_of_odd(listed[number][1], match, old)
        if place is not None:
            found.append((match, place))
    return found
