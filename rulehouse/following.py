"""What follows from facts by rules without nots."""

from rulehouse.errors import NoFact
from rulehouse.facts import Facts
from rulehouse.finding import Shelves, extended, filled, patterns_of, sorted_matches
from rulehouse.growing import grown
from rulehouse.parts import as_fact, atom_key
from rulehouse.rules import refuse_nots


def all_heights(rules, facts):
    """The dict from all that follows, in any order, to heights: the last one is kept, and never changed."""
    kept = rules.memory.get("heights")
    if kept is None or kept[0] != facts:
        kept = (facts, grown(patterns_of(rules), facts.listed(), {}))
        rules.memory["heights"] = kept
    return kept[1]


def checked_fact(fact):
    """The fact as a tuple; NoFact for any object that is none."""
    kept = as_fact(fact)
    if kept is None:
        raise NoFact(fact)
    return kept


def what_follows(rules, facts):
    """The Facts of all that follows from facts by rules."""
    refuse_nots(rules)
    return Facts(list(all_heights(rules, facts)))


def heights(rules, facts):
    """The dict from all that follows, in THE ORDER, to heights."""
    refuse_nots(rules)
    found = all_heights(rules, facts)
    return {fact: found[fact] for fact in sorted(list(found), key=atom_key)}


def calls_by_head(pattern, fact):
    """The calls by which a head becomes a fact, None if it can't."""
    if pattern.head[0] != fact[0] or len(pattern.head) != len(fact):
        return None
    return extended(pattern.head, fact, pattern.seeds)


def _facts_by(pattern, calls):
    """The tuple of the facts that the atoms of a body become."""
    bound = {**pattern.seeds, **calls}
    return tuple([filled(atom, bound) for atom in pattern.atoms])


def steps_of(patterns, shelves):
    """The list of all triples (head, number, facts) of matches of bodies in shelves."""
    found = []
    for number, pattern in enumerate(patterns):
        for calls in sorted_matches(pattern, shelves, {}, pattern.seeds):
            bound = {**pattern.seeds, **calls}
            found.append((filled(pattern.head, bound), number, _facts_by(pattern, calls)))
    return found


def steps_for(rules, facts, fact):
    """The list of all steps for a fact, by numbers, then by matches in order."""
    refuse_nots(rules)
    kept = checked_fact(fact)
    shelves = Shelves(list(all_heights(rules, facts)))
    steps = []
    for number, pattern in enumerate(patterns_of(rules)):
        calls = calls_by_head(pattern, kept)
        if calls is not None:
            for more in sorted_matches(pattern, shelves, {}, calls):
                steps.append((number, _facts_by(pattern, more)))
    return steps
