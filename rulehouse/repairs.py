"""Denials of what given facts tell, their quarrels, the repairs, and what is sure in all of these."""

from rulehouse.errors import BadDenial, NoRepair
from rulehouse.facts import Facts
from rulehouse.finding import Pattern, Shelves, filled, found_calls, sorted_matches
from rulehouse.following import all_heights, checked_fact
from rulehouse.parts import as_body, loose_letters
from rulehouse.rules import refuse_nots
from rulehouse.supports import least_numbers, supports_of
from rulehouse.trees import tree_of
from rulehouse.worlds import world_without


def _as_denial(thing):
    """The denial that any object is, of tuples, None if it is none."""
    body = as_body(thing)
    if body is None or any([part[0] == "not" for part in body]):
        return None
    return None if loose_letters([part for part in body if part[0] == "unlike"], body) else body


def _patterns(rules, denials):
    """The patterns of denials: HasNot, then BadDenial."""
    refuse_nots(rules)
    if not isinstance(denials, (list, tuple)):
        raise BadDenial(0)
    found = []
    for index, thing in enumerate(denials):
        body = _as_denial(thing)
        if body is None:
            raise BadDenial(index)
        found.append(Pattern(body))
    return found


def broken(rules, facts, denials):
    """The list of the pairs (index, match) at which what follows breaks denials."""
    patterns = _patterns(rules, denials)
    shelves = Shelves(list(all_heights(rules, facts)))
    return [(index, match) for index, pattern in enumerate(patterns)
            for match in sorted_matches(pattern, shelves, {}, pattern.seeds)]


class Quarrels:
    """Which sets of given facts break denials, told by their numbers."""

    def __init__(self, rules, facts, patterns):
        self._supports = supports_of(rules, facts)
        shelves = Shelves(self._supports.all_facts())
        rows = {}
        for pattern in patterns:
            for calls in found_calls(shelves, pattern.atoms, pattern.unlikes, pattern.seeds):
                rows[tuple([filled(atom, calls) for atom in pattern.atoms])] = True
        self._breaking = self._supports.one_follows_from(list(rows))

    def quarrels(self):
        """The list of the least sets that break a denial."""
        return [self._supports.set_of(number) for number in least_numbers(self._breaking)]

    def left_out(self):
        """The list of the least sets without which the others break none."""
        # All others of the set with a number stand at the same place from the end.
        keeping = [not is_one for is_one in reversed(self._breaking)]
        return [self._supports.set_of(number) for number in least_numbers(keeping)]


def quarrels(rules, facts, denials):
    """The list of all least sets of given facts that break a denial."""
    patterns = _patterns(rules, denials)
    return Quarrels(rules, facts, patterns).quarrels()


def left_out(rules, facts, denials):
    """The list of all least sets of given facts without which the others break no denial."""
    patterns = _patterns(rules, denials)
    return Quarrels(rules, facts, patterns).left_out()


def _repairs(rules, facts, patterns):
    return [facts - Facts(told) for told in Quarrels(rules, facts, patterns).left_out()]


def repairs(rules, facts, denials):
    """The list of the repairs, the Facts that are left where sets are left out."""
    return _repairs(rules, facts, _patterns(rules, denials))


def _parted_repairs(rules, facts, denials, fact):
    """The fact, the repairs, and the list of whether the fact follows from each: BadDenial, NoFact, NoRepair."""
    patterns = _patterns(rules, denials)
    kept = checked_fact(fact)
    found = _repairs(rules, facts, patterns)
    if not found:
        raise NoRepair()
    return kept, found, [kept in all_heights(rules, repair) for repair in found]


def in_repairs(rules, facts, denials, fact):
    """Whether a fact follows from each repair, "sure", from none, "never", or from some, "open"."""
    following = _parted_repairs(rules, facts, denials, fact)[2]
    if all(following):
        return "sure"
    return "open" if any(following) else "never"


def repair_papers(rules, facts, denials, fact):
    """What shows it: a tree from each repair, a world of each, or a pair of repairs that part them."""
    kept, found, following = _parted_repairs(rules, facts, denials, fact)
    if all(following):
        return [tree_of(rules, repair, kept) for repair in found]
    if not any(following):
        return [world_without(rules, repair, kept) for repair in found]
    return (found[following.index(True)], found[following.index(False)])
