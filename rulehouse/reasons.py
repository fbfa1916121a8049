"""Why a fact follows: least sets of given facts from which it does, and without which it does not."""

from rulehouse.errors import NotGiven
from rulehouse.following import checked_fact
from rulehouse.parts import as_fact
from rulehouse.rules import refuse_nots
from rulehouse.supports import least_numbers, supports_of


def checked_question_of(rules, fact):
    """The fact that is asked about: HasNot, then NoFact."""
    refuse_nots(rules)
    return checked_fact(fact)


def as_set(facts, thing):
    """The ascending tuple of given facts that any object lists, each once; None if it does not."""
    if not isinstance(thing, (list, tuple)):
        return None
    found = {}
    for told in thing:
        fact = as_fact(told)
        if fact is None or fact not in facts or fact in found:
            return None
        found[fact] = True
    return tuple([fact for fact in facts.listed() if fact in found])


def _least_sets(rules, facts, fact):
    supports = supports_of(rules, facts)
    return [supports.set_of(number) for number in least_numbers(supports.follows_from(fact))]


def least_sets(rules, facts, fact):
    """The list of all least sets of given facts from which a fact follows."""
    return _least_sets(rules, facts, checked_question_of(rules, fact))


def is_least_set(rules, facts, fact, thing):
    """Whether any object is a least set from which a fact follows."""
    kept = checked_question_of(rules, fact)
    told = as_set(facts, thing)
    return told is not None and told in _least_sets(rules, facts, kept)


def _least_breaks(rules, facts, fact):
    supports = supports_of(rules, facts)
    # All others of the set with a number stand at the same place from the end.
    breaks = [not follows for follows in reversed(supports.follows_from(fact))]
    return [supports.set_of(number) for number in least_numbers(breaks)]


def least_breaks(rules, facts, fact):
    """The list of all least sets of given facts without which a fact does not follow."""
    return _least_breaks(rules, facts, checked_question_of(rules, fact))


def is_least_break(rules, facts, fact, thing):
    """Whether any object is a least set without which a fact does not follow."""
    kept = checked_question_of(rules, fact)
    told = as_set(facts, thing)
    return told is not None and told in _least_breaks(rules, facts, kept)


def _checked_given(facts, given):
    fact = as_fact(given)
    if fact is None or fact not in facts:
        raise NotGiven(given)
    return fact


def role(rules, facts, fact, given):
    """Whether a given fact is "needed", "helps" or is "idle"."""
    kept = checked_question_of(rules, fact)
    one = _checked_given(facts, given)
    having = [one in told for told in _least_sets(rules, facts, kept)]
    if not any(having):
        return "idle"
    return "needed" if all(having) else "helps"


def blame(rules, facts, fact, given):
    """The pair (many, set) of as few facts as can be without which a given fact is needed, None for an idle one."""
    kept = checked_question_of(rules, fact)
    one = _checked_given(facts, given)
    rests = [[other for other in told if other != one] for told in _least_breaks(rules, facts, kept) if one in told]
    if not rests:
        return None
    index = {other: at for at, other in enumerate(facts.listed())}
    rest = min(rests, key=lambda told: (len(told), [index[other] for other in told]))
    return (len(rest), tuple(rest))
