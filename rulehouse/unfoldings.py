"""Expansions of plain rules, how many rounds are enough, and which rules may be used first."""

from rulehouse.alike import Kinds
from rulehouse.errors import BadNumber
from rulehouse.expanding import taken_together
from rulehouse.finding import patterns_of
from rulehouse.growing import Growth, grown
from rulehouse.names import is_integer
from rulehouse.programs import frozen, refuse_unplain


def _expansions(rules, height):
    """The expansions of a height, one of those that are alike."""
    kinds = Kinds()
    last = {kinds.put(rule): True for rule in rules.listed()}
    for _ in range(height - 1):
        others = kinds.all_kept()
        wanted = [number in last for number in range(len(others))]
        ahead = last
        found = [made for rule in rules.listed() for made in taken_together(rule, others, wanted)]
        last = {kinds.put(made): True for made in found}
        # Where nothing is new and the last ones are those ahead, all next ones are, too.
        if last == ahead and len(kinds.all_kept()) == len(others):
            break
    return [rule for number, rule in enumerate(kinds.all_kept()) if number in last]


def expansions(rules, height):
    """A list of the expansions of just a height, one of those that are alike."""
    refuse_unplain(rules)
    if not is_integer(height) or height < 1:
        raise BadNumber(height)
    return _expansions(rules, height)


def slow_facts(rules, many):
    """A pair (facts, fact) with a fact that is higher than a number, None if everywhere none is."""
    refuse_unplain(rules)
    if not is_integer(many) or many < 0:
        raise BadNumber(many)
    for rule in _expansions(rules, many + 1):
        facts, fact = frozen(rules.listed(), rule)
        if grown(patterns_of(rules), facts, {})[fact] > many:
            return (facts, fact)
    return None


def _behind_round(rules, facts):
    """Facts, and all that matches in them make of heads."""
    growth = Growth(patterns_of(rules), facts, {})
    growth.next_steps()
    return list(growth.rounds)


def first_apart(one, other):
    """A pair (facts, fact): the fact comes by a round of the one behind one of the other, but not turned round."""
    refuse_unplain(one)
    refuse_unplain(other)
    heads = other.listed()
    for rule in one.listed():
        for made in taken_together(rule, heads, [True] * len(heads)):
            facts, fact = frozen(one.listed() + heads, made)
            if fact not in _behind_round(other, _behind_round(one, facts)):
                return (facts, fact)
    return None
