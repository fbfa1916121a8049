"""Expansions of plain rules, how many rounds are enough, and which rules may be used first."""

from rulehouse.alike import unlike_rules
from rulehouse.errors import BadNumber
from rulehouse.expanding import taken_together
from rulehouse.finding import patterns_of
from rulehouse.growing import Growth, grown
from rulehouse.names import is_integer
from rulehouse.programs import frozen, refuse_unplain


def _expansions(rules, height):
    """The expansions of a height, one of those that are alike."""
    earlier = []
    last = unlike_rules(rules.listed())
    for _ in range(height - 1):
        others = last + earlier
        wanted = [True] * len(last) + [False] * len(earlier)
        earlier = unlike_rules(others)
        last = unlike_rules([made for rule in rules.listed() for made in taken_together(rule, others, wanted)])
    return last


def expansions(rules, height):
    """A list of the expansions of just a height, one of those that are alike."""
    refuse_unplain(rules)
    if not is_integer(height) or height < 1:
        raise BadNumber(height)
    return _expansions(rules, height)


def slow_facts(rules, many):
    """A pair (facts, fact) with a fact that is higher than a number, None if everywhere none is."""
    refuse_unplain(rules)
    if not is_integer(many) or many < 0:
        raise BadNumber(many)
    for rule in _expansions(rules, many + 1):
        facts, fact = frozen(rules.listed(), rule)
        if grown(patterns_of(rules), facts, {})[fact] > many:
            return (facts, fact)
    return None


def _behind_round(rules, facts):
    """Facts, and all that matches in them make of heads."""
    growth = Growth(patterns_of(rules), facts, {})
    growth.next_steps()
    return list(growth.rounds)


def first_apart(one, other):
    """A pair (facts, fact): the fact comes by a round of the one behind one of the other, but not turned round."""
    refuse_unplain(one)
    refuse_unplain(other)
    heads = other.listed()
    for rule in one.listed():
        for made in taken_together(rule, heads, [True] * len(heads)):
            facts, fact = frozen(one.listed() + heads, made)
            if fact not in _behind_round(other, _behind_round(one, facts)):
                return (facts, fact)
    return None
