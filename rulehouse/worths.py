"""Worths, the papers that show that a fact has no cheaper tree."""

from rulehouse.costs import least_costs
from rulehouse.finding import clashes, filled, patterns_of
from rulehouse.following import calls_by_head, checked_fact
from rulehouse.freezing import parts_of_rules, things_named
from rulehouse.parts import as_fact
from rulehouse.prices import check_prices, is_price


def _bodies_under(pattern, fact, things):
    """The tuples of facts that the atoms of a body become, for all things put in by which the head is a fact."""
    calls = calls_by_head(pattern, fact)
    if calls is None:
        return []
    rows = [calls]
    for letter in pattern.letters:
        if letter not in calls:
            rows = [{**row, letter: thing} for row in rows for thing in things]
    return [tuple([filled(atom, row) for atom in pattern.atoms]) for row in rows
            if not clashes(pattern.unlikes, row)]


def _all_things(facts, rules, others):
    """The things of facts, of rules and of other facts."""
    return things_named(facts.listed() + parts_of_rules(rules.listed()) + list(others))


def _sum_of(worths, fee, body):
    """A fee and what facts are worth together, None if one is worth more than all numbers."""
    told = [worths.get(fact, 0) for fact in body]
    return None if None in told else fee + sum(told)


def _is_at_most(one, other):
    """Whether one worth is at most another one, None being more than all numbers."""
    return other is None or (one is not None and one <= other)


def _as_worths(thing):
    """The dict from facts to worths that any object is, None if it is none."""
    if not isinstance(thing, dict):
        return None
    for key, worth in thing.items():
        if as_fact(key) is None or not (worth is None or is_price(worth)):
            return None
    return thing


def are_worths(facts, rules, prices, fees, thing):
    """Whether any object is a dict of worths that holds."""
    check_prices(facts, rules, prices, fees)
    worths = _as_worths(thing)
    if worths is None or not all([_is_at_most(worths.get(fact, 0), prices[fact]) for fact in facts.listed()]):
        return False
    things = _all_things(facts, rules, list(worths))
    patterns = patterns_of(rules)
    for fact, worth in worths.items():
        for pattern, fee in zip(patterns, fees):
            # What is worth no more than the fee alone is worth no more than any sum with it.
            if _is_at_most(worth, fee):
                continue
            for body in _bodies_under(pattern, fact, things):
                if not _is_at_most(worth, _sum_of(worths, fee, body)):
                    return False
    return True


def worths_for(facts, rules, prices, fees, fact):
    """Worths that hold, and by which a fact is worth its least cost, None if it has no tree."""
    check_prices(facts, rules, prices, fees)
    kept = checked_fact(fact)
    least = least_costs(facts, rules, prices, fees)
    things = _all_things(facts, rules, [kept])
    patterns = patterns_of(rules)
    worths = {kept: least.get(kept)}
    left = [kept]
    while left:
        told = left.pop()
        for pattern, fee in zip(patterns, fees):
            bodies = [] if _is_at_most(worths[told], fee) else _bodies_under(pattern, told, things)
            for other in [below for body in bodies for below in body]:
                if other not in worths and least.get(other) != 0:
                    worths[other] = least.get(other)
                    left.append(other)
    return worths
