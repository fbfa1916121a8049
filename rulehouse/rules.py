"""Lists of safe rules that never change, and which relations hang on which."""

from rulehouse.errors import BadRule, HasNot, NoRule, Uneven, Unsafe
from rulehouse.names import is_integer
from rulehouse.parts import as_rule, atom_of, loose_in_rule


def atoms_of(rule):
    """The atoms of a rule, head and then body, also those behind nots."""
    head, body = rule
    found = [head]
    for part in body:
        atom = atom_of(part)
        if atom is not None:
            found.append(atom)
    return found


def check_even(rows):
    """Raises Uneven for the first place in rows of atoms at which a relation has another number of places."""
    place = _uneven_place(rows)
    if place is not None:
        raise Uneven(place[0], place[1])


def _uneven_place(rows):
    """The first pair (index, relation) at which a relation has another number of places, None if it has none."""
    places = {}
    for index, atoms in enumerate(rows):
        for atom in atoms:
            if places.get(atom[0], len(atom)) != len(atom):
                return index, atom[0]
            places[atom[0]] = len(atom)
    return None


def are_even(rows):
    """Whether each relation in rows of atoms has one number of places."""
    return _uneven_place(rows) is None


def is_even(rules):
    """Whether each relation in a list of rules has one number of places."""
    return are_even([atoms_of(rule) for rule in rules])


def as_rule_alone(thing):
    """The rule that any object is, of tuples, None if it is none or Rules does not take it alone."""
    rule = as_rule(thing)
    if rule is None or not is_even([rule]) or loose_in_rule(rule):
        return None
    return rule


def _check_safe(rules):
    for index, rule in enumerate(rules):
        loose = loose_in_rule(rule)
        if len(loose) > 0:
            raise Unsafe(index, loose[0])


def checked_rules(rules):
    """The tuple of the rules of a list, of tuples: BadRule, then Uneven, then Unsafe."""
    if not isinstance(rules, (list, tuple)):
        raise BadRule(0)
    kept = []
    for index, thing in enumerate(rules):
        rule = as_rule(thing)
        if rule is None:
            raise BadRule(index)
        kept.append(rule)
    check_even([atoms_of(rule) for rule in kept])
    _check_safe(kept)
    return tuple(kept)


class Rules:
    """A list of safe rules that never changes, called by their numbers."""

    def __init__(self, rules):
        self._rules = checked_rules(rules)
        # Rules never change: what others make of them, and need again, they keep here.
        self.memory = {}

    def listed(self):
        """The list of the rules."""
        return list(self._rules)

    def made(self):
        """The ascending list of the relations of the heads."""
        found = {head[0]: True for head, body in self._rules}
        return sorted(list(found))

    def given(self):
        """The ascending list of the relations in bodies that no head has."""
        made = {head[0]: True for head, body in self._rules}
        found = {}
        for rule in self._rules:
            for atom in atoms_of(rule):
                if atom[0] not in made:
                    found[atom[0]] = True
        return sorted(list(found))

    def about(self, relation):
        """The list of the numbers of the rules whose head has a relation, any object."""
        return [number for number, rule in enumerate(self._rules) if rule[0][0] == relation]

    def without(self, number):
        """The rules that lack the one with a number."""
        if not is_number_of(number, self._rules):
            raise NoRule(number)
        return Rules(self._rules[:number] + self._rules[number + 1:])

    def __len__(self):
        return len(self._rules)

    def __or__(self, other):
        if not isinstance(other, Rules):
            return NotImplemented
        return Rules(self._rules + other._rules)

    def __eq__(self, other):
        return isinstance(other, Rules) and self._rules == other._rules


def is_number_of(thing, rows):
    """Whether any object is an index of a list."""
    return is_integer(thing) and 0 <= thing < len(rows)


def refuse_nots(rules):
    """Raises HasNot for the first rule with a not, where rules without nots are told of."""
    for index, rule in enumerate(rules.listed()):
        for part in rule[1]:
            if part[0] == "not":
                raise HasNot(index)


def _next_relations(rules):
    """The dict from the relations of heads to dicts of the relations in their bodies."""
    following = {}
    for rule in rules.listed():
        beside = following.setdefault(rule[0][0], {})
        for atom in atoms_of(rule)[1:]:
            beside[atom[0]] = True
    return following


def _reached(following, relation):
    """The relations on which one hangs."""
    found = {}
    left = [relation]
    while left:
        last = left.pop()
        for beside in list(following.get(last, {})):
            if beside not in found:
                found[beside] = True
                left.append(beside)
    return sorted(list(found))


def hangs_on(rules, relation):
    """The ascending list of the relations on which one, any object, hangs."""
    if not isinstance(relation, str):
        return []
    return _reached(_next_relations(rules), relation)


def is_in_ring(rules, relation):
    """Whether any object is a relation in a ring, one that hangs on itself."""
    return relation in hangs_on(rules, relation)


def rings(rules):
    """The list of the rings, each one behind those on which it hangs."""
    following = _next_relations(rules)
    hanging = {relation: _reached(following, relation) for relation in rules.made()}
    left = []
    for relation in rules.made():
        ring = [other for other in hanging[relation] if relation in hanging.get(other, [])]
        if ring and ring[0] == relation:
            left.append(ring)
    found = []
    while left:
        ring = _first_free(left, hanging)
        found.append(ring)
        left = [other for other in left if other != ring]
    return found


def _first_free(left, hanging):
    """The first ring that hangs on no other one that is left."""
    for ring in left:
        others = [other for other in left if other != ring and other[0] in hanging[ring[0]]]
        if not others:
            return ring
    return None
