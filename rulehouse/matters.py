"""Whether putting a fact can matter to a relation, whatever the base."""

from rulehouse.errors import HasUnlike, IsMade, Ringed
from rulehouse.facts import Facts
from rulehouse.following import all_heights, checked_fact
from rulehouse.freezing import first_new, frozen_calls, parts_of_rules, things_named
from rulehouse.joins import unfolded_by
from rulehouse.names import is_letter
from rulehouse.parts import filled_part, letters_in
from rulehouse.rules import hangs_on, is_in_ring, refuse_nots


def _check(rules, relation, fact):
    """The fact as a tuple: HasNot, HasUnlike, Ringed, NoFact, then IsMade."""
    refuse_nots(rules)
    for index, (head, body) in enumerate(rules.listed()):
        if any([part[0] == "unlike" for part in body]):
            raise HasUnlike(index)
    for other in sorted(list({name: True for name in [relation] + hangs_on(rules, relation)})):
        if is_in_ring(rules, other):
            raise Ringed(other)
    kept = checked_fact(fact)
    if kept[0] in rules.made():
        raise IsMade(kept[0])
    return kept


def _bottoms(rules, relation):
    """The rules whose bodies are of given relations alone, that come of those about a relation by going down."""
    listed = rules.listed()
    made = rules.made()
    left = [listed[number] for number in rules.about(relation)]
    found = {}
    while left:
        rule = left.pop()
        at = [index for index, atom in enumerate(rule[1]) if atom[0] in made]
        if not at:
            found[rule] = True
            continue
        below = [unfolded_by(rule, at[0], other) for other in listed if other[0][0] == rule[1][at[0]][0]]
        left.extend([other for other in below if other is not None])
    return list(found)


def _calls_by(atoms, fact):
    """The calls by which all atoms become a fact, None if they can't."""
    calls = {}
    for atom in atoms:
        if atom[0] != fact[0] or len(atom) != len(fact):
            return None
        for term, thing in zip(atom[1:], fact[1:]):
            if calls.setdefault(term, thing if is_letter(term) else term) != thing:
                return None
    return calls


def _choices(body):
    """All lists of one or more atoms of a body."""
    found = [[]]
    for atom in body:
        found = found + [told + [atom] for told in found]
    return found[1:]


def _base_by(rule, atoms, fact, first):
    """The pair (base, head) if some atoms of a rule's body become a fact and the rest is frozen, None if they can't."""
    calls = _calls_by(atoms, fact)
    if calls is None:
        return None
    head, body = rule
    letters = [letter for letter in letters_in((head,) + body) if letter not in calls]
    calls = {**frozen_calls(letters, first), **calls}
    base = [filled_part(atom, calls) for atom in body]
    return Facts([told for told in base if told != fact]), filled_part(head, calls)


def matters(rules, relation, fact):
    """A pair (base, other) of facts by which other stands just if the fact is put, None if there are none."""
    kept = _check(rules, relation, fact)
    if relation not in rules.made():
        return (Facts([]), kept) if relation == kept[0] else None
    first = first_new(things_named(parts_of_rules(rules.listed()) + [kept]))
    for rule in _bottoms(rules, relation):
        for atoms in _choices(rule[1]):
            found = _base_by(rule, atoms, kept, first)
            if found is not None and found[1] not in all_heights(rules, found[0]):
                return found
    return None
