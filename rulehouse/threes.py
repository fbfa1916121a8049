"""What is sure, what is never, and what is open, where rules say not."""

from rulehouse.arguing import Hearing
from rulehouse.facts import facts_in_order
from rulehouse.finding import calls_by, letters_alone, patterns_of
from rulehouse.following import checked_fact
from rulehouse.growing import Growth
from rulehouse.turning import turning_of


def turns(rules, facts):
    """The list of sets, each behind the one ahead of it, up to the first two that are behind each other."""
    turning = turning_of(rules, facts)
    return [facts_in_order(turning.facts_of(bits)) for bits in turning.turned]


def sure_facts(rules, facts):
    """The Facts of all that is sure."""
    turning = turning_of(rules, facts)
    return facts_in_order(turning.facts_of(turning.sure))


def open_facts(rules, facts):
    """The Facts of all that is possible and not sure."""
    turning = turning_of(rules, facts)
    return facts_in_order(turning.facts_of(turning.possible & ~turning.sure))


def verdict(rules, facts, fact):
    """Whether a fact is "sure", "never" or "open"."""
    kept = checked_fact(fact)
    turning = turning_of(rules, facts)
    bit = turning.bits.get(kept, 0)
    if bit & turning.sure:
        return "sure"
    return "open" if bit & turning.possible else "never"


def _sure_claims(patterns, facts, barred, told):
    """The claims of what is sure if just barred facts may stand, but for what is told; told goes along."""
    growth = Growth(patterns, facts.listed(), {fact: True for fact in barred.listed()})
    claims = []
    while not growth.is_over():
        for head, number, below in growth.next_steps():
            if head not in told:
                told[head] = True
                pattern = patterns[number]
                claims.append((head, ("sure", number, letters_alone(pattern, calls_by(pattern, below)))))
    return claims


def _claims_that_tell(patterns, facts, found, fact):
    """The claims turn by turn, up to the one that tells a fact; found are the turns."""
    told = {given: True for given in facts.listed()}
    claims = []
    for index in range(2, len(found)):
        if index % 2 == 1:
            some = found[index - 2] - found[index]
            claims.append(("never", tuple(some.listed())))
            if fact in some:
                return claims
            continue
        for head, claim in _sure_claims(patterns, facts, found[index - 1], told):
            claims.append(claim)
            if head == fact:
                return claims
    return None


def argument(rules, facts, fact):
    """An argument that tells a fact sure or never, None for an open one."""
    kept = checked_fact(fact)
    found = turns(rules, facts)
    if kept in facts or kept not in found[1]:
        return []
    return _claims_that_tell(patterns_of(rules), facts, found, kept)


def argued(rules, facts, fact, thing):
    """What any object, as an argument, tells of a fact: "sure" or "never", None if nothing."""
    kept = checked_fact(fact)
    if not isinstance(thing, (list, tuple)):
        return None
    hearing = Hearing(rules, facts)
    for claim in thing:
        if not hearing.hear(claim):
            return None
    return hearing.told(kept)


def is_halves(rules, facts, low, high):
    """Whether low is within high, and each of both is behind of the other."""
    if not low.is_within(high):
        return False
    turning = turning_of(rules, facts)
    lower = turning.bits_of(low.listed())
    upper = turning.bits_of(high.listed())
    # What is behind a set is of wide, so sets with other facts are no halves.
    if lower is None or upper is None:
        return False
    return turning.behind(lower) == upper and turning.behind(upper) == lower
