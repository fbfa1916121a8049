"""Worlds, the papers that show that a fact does not follow."""

from rulehouse.facts import Facts
from rulehouse.finding import Shelves, patterns_of
from rulehouse.following import all_heights, checked_fact, steps_of
from rulehouse.parts import atom_key
from rulehouse.rules import refuse_nots


def is_world(rules, facts, thing):
    """Whether any object is a world of rules and facts."""
    refuse_nots(rules)
    if not isinstance(thing, Facts) or not facts.is_within(thing):
        return False
    steps = steps_of(patterns_of(rules), Shelves(thing.listed()))
    return all([head in thing for head, number, below in steps])


def world_without(rules, facts, fact):
    """The least world, if it has not the fact, else None."""
    refuse_nots(rules)
    kept = checked_fact(fact)
    world = Facts(list(all_heights(rules, facts)))
    return None if kept in world else world


def _demands(rules, base, most):
    """What steps in most ask of the facts beyond the base: pairs (facts, head), head None if barred."""
    found = {}
    for head, number, below in steps_of(patterns_of(rules), Shelves(most.listed())):
        beyond = {fact: True for fact in below if fact not in base}
        if head not in base:
            key = (tuple(sorted(list(beyond), key=atom_key)), head if head in most else None)
            found[key] = True
    return list(found)


def _is_closed(some, demands):
    """Whether a dict of facts beyond the base is all that the demands ask for."""
    for below, head in demands:
        if head not in some and all([fact in some for fact in below]):
            return False
    return True


def _choices(facts):
    """The list of all lists of some of the facts, each in their order."""
    found = [[]]
    for fact in facts:
        found = found + [some + [fact] for some in found]
    return found


def worlds_within(rules, facts, most):
    """The list of all worlds within a Facts, those with fewer facts first."""
    refuse_nots(rules)
    base = Facts(list(all_heights(rules, facts)))
    if not base.is_within(most):
        return []
    demands = _demands(rules, base, most)
    found = []
    for some in _choices((most - base).listed()):
        if _is_closed({fact: True for fact in some}, demands):
            found.append(some)
    return [base | Facts(some) for some in sorted(found, key=_choice_key)]


def _choice_key(some):
    """What worlds are ordered by: as all have the base, what they have beyond it tells their order."""
    return (len(some), tuple([atom_key(fact) for fact in some]))
