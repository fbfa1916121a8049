"""Sets of facts that never change."""

from rulehouse.errors import BadFact
from rulehouse.names import is_integer, term_key
from rulehouse.parts import as_fact, atom_key


def list_of_facts(facts):
    """The list of the facts that an object lists, tuples; BadFact for the first thing that is none."""
    if not isinstance(facts, (list, tuple)):
        raise BadFact(0)
    found = []
    for index, thing in enumerate(facts):
        found.append(as_fact(thing))
        if found[-1] is None:
            raise BadFact(index)
    return found


def _checked_facts(facts):
    """The tuple of the unlike facts of a list, in THE ORDER; BadFact for the first that is none."""
    found = {fact: True for fact in list_of_facts(facts)}
    return tuple(sorted(list(found), key=atom_key))


class Facts:
    """A set of facts that never changes, made of a list."""

    def __init__(self, facts):
        self._listed = _checked_facts(facts)
        self._known = {fact: True for fact in self._listed}

    def listed(self):
        """The list of the facts, in THE ORDER."""
        return list(self._listed)

    def of(self, relation, many):
        """The list of the facts with a relation and so many places, any objects."""
        if not isinstance(relation, str) or not is_integer(many):
            return []
        return [fact for fact in self._listed if fact[0] == relation and len(fact) == many + 1]

    def things(self):
        """The list of the things in the facts, in THE ORDER."""
        found = {}
        for fact in self._listed:
            for thing in fact[1:]:
                found[thing] = True
        return sorted(list(found), key=term_key)

    def relations(self):
        """The list of the pairs (relation, many) that there are, ascending."""
        found = {(fact[0], len(fact) - 1): True for fact in self._listed}
        return sorted(list(found))

    def is_within(self, other):
        """Whether all of these facts are of the other set."""
        return all([fact in other._known for fact in self._listed])

    def __contains__(self, x):
        fact = as_fact(x)
        return fact is not None and fact in self._known

    def __len__(self):
        return len(self._listed)

    def __or__(self, other):
        if not isinstance(other, Facts):
            return NotImplemented
        return Facts(self._listed + other._listed)

    def __and__(self, other):
        if not isinstance(other, Facts):
            return NotImplemented
        return Facts([fact for fact in self._listed if fact in other._known])

    def __sub__(self, other):
        if not isinstance(other, Facts):
            return NotImplemented
        return Facts([fact for fact in self._listed if fact not in other._known])

    def __eq__(self, other):
        return isinstance(other, Facts) and self._listed == other._listed


def facts_in_order(rows):
    """The Facts of unlike facts that stand in THE ORDER already: they need not be looked at again."""
    made = Facts(())
    made._listed = tuple(rows)
    made._known = {fact: True for fact in rows}
    return made
