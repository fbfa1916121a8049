"""Which rules may stand for which others in every company, and what parts those that may not."""

from rulehouse.cases import behind
from rulehouse.facts import Facts
from rulehouse.finding import patterns_of
from rulehouse.growing import Growth
from rulehouse.partings import least_parting
from rulehouse.rules import Rules, is_even


def _heads_within(rules, facts, there):
    """Whether facts have the heads of all matches in them, but for those with a not fact in there."""
    growth = Growth(patterns_of(rules), facts.listed(), {fact: True for fact in there.listed()})
    return all([step[0] in facts for step in growth.next_steps()])


def holds(rules, here, there):
    """Whether a pair of sets holds for rules."""
    return here.is_within(there) and _heads_within(rules, there, there) and _heads_within(rules, here, there)


def adds_nothing(rules, more):
    """Whether rules may stand for themselves and more together."""
    return least_parting(rules, more, True) is None


def may_stand_for(one, other):
    """Whether two lists of rules have the same steady worlds in every company."""
    return adds_nothing(one, other) and adds_nothing(other, one)


def pair_against(rules, more):
    """A least pair (here, there) that holds for rules and not for more, None if there is none."""
    return least_parting(rules, more, False)


def _lesser(first, second):
    """The lesser one of two pairs, each perhaps None, the first one if neither is less."""
    if first is None or second is None:
        return second if first is None else first
    if (len(second[1]), len(second[0])) < (len(first[1]), len(first[0])):
        return second
    return first


def parting_pair(one, other):
    """The lesser one of the pairs that hold for just one of two lists of rules, None if there is none."""
    return _lesser(pair_against(one, other), pair_against(other, one))


def company(one, other):
    """A company by which two lists of rules have unlike steady worlds, None if there is none."""
    pair = parting_pair(one, other)
    if pair is None:
        return None
    here, there = pair
    failing = other if holds(one, here, there) else one
    if not holds(failing, there, there):
        return (Rules([]), there, there)
    beyond = (there - here).listed()
    rules = [(fact, (each,)) for each, fact in zip(beyond, beyond[1:] + beyond[:1])]
    return (Rules(rules), here, there)


def _is_steady_with(rules, more, facts, world):
    return behind(rules | more, facts, world) == world


def is_company(one, other, thing):
    """Whether any object is a company for two lists of rules."""
    if not isinstance(thing, (list, tuple)) or len(thing) != 3:
        return False
    more, facts, world = thing
    if not isinstance(more, Rules) or not isinstance(facts, Facts) or not isinstance(world, Facts):
        return False
    if not is_even(one.listed() + more.listed()) or not is_even(other.listed() + more.listed()):
        return False
    return _is_steady_with(one, more, facts, world) != _is_steady_with(other, more, facts, world)


def _is_spare(listed, number):
    """Whether the rule with a number adds nothing to all others of a list."""
    return adds_nothing(Rules(listed[:number] + listed[number + 1:]), Rules([listed[number]]))


def too_many(rules):
    """The list of the numbers of the rules each of which adds nothing to the others."""
    listed = rules.listed()
    return [number for number in range(len(listed)) if _is_spare(listed, number)]


def lean(rules):
    """The rules that are left if each is taken out in turn that adds nothing to those still there."""
    left = rules.listed()
    number = 0
    while number < len(left):
        if _is_spare(left, number):
            left = left[:number] + left[number + 1:]
        else:
            number += 1
    return Rules(left)
