"""Rules that make only what a goal asks for: new relations tell which calls come up."""

from rulehouse.names import is_letter
from rulehouse.parts import is_plain, letters_in
from rulehouse.rules import atoms_of


class Asking:
    """New relations for calls, by their relations and the places of their things."""

    def __init__(self, rules, goal):
        used = [atom[0] for rule in rules.listed() for atom in atoms_of(rule)]
        self._rules = rules.listed()
        self._barred = {relation: True for relation in used + [goal[0]]}
        self._named = {}
        self._left = []
        self._many = 0

    def fresh_name(self):
        """A name for a relation that has not stood anywhere."""
        name = f"ask{self._many}"
        self._many += 1
        while name in self._barred:
            name = f"ask{self._many}"
            self._many += 1
        return name

    def relation_for(self, atom, places):
        """The new relation for calls of the relation of an atom, with as many places."""
        key = (atom[0], len(atom), places)
        if key not in self._named:
            self._named[key] = self.fresh_name()
            self._left.append(key)
        return self._named[key]

    def told_by(self, atom, letters):
        """The new atom that tells of the call of an atom, by things for some letters."""
        places = [place for place, term in enumerate(atom[1:]) if not is_letter(term) or term in letters]
        return (self.relation_for(atom, tuple(places)),) + _terms_at(atom, places)

    def names(self):
        """The dict from the new relations to pairs (relation, places)."""
        return {name: (key[0], key[2]) for key, name in self._named.items()}

    def all_rules(self):
        """The list of the rules for all calls that can come up, each once."""
        found = {}
        while self._left:
            relation, length, places = self._left.pop(0)
            for rule in self._rules:
                if rule[0][0] == relation and len(rule[0]) == length:
                    for other in self.rules_along(rule, places):
                        found[other] = True
        return list(found)

    def rules_along(self, rule, places):
        """The rules that one rule becomes for calls with things at some places."""
        head, body = rule
        ahead = [(self.relation_for(head, places),) + _terms_at(head, places)]
        found = []
        for part in body:
            if is_plain(part):
                known = letters_in(ahead)
                unlikes = [other for other in body if not is_plain(other) and not _lacks(other, known)]
                found.append((self.told_by(part, known), tuple(ahead + unlikes)))
                ahead = ahead + [part]
        found.append((head, (ahead[0],) + body))
        return [other for other in found if other[0] not in other[1]]


def _terms_at(atom, places):
    return tuple([atom[place + 1] for place in places])


def _lacks(part, letters):
    """Whether a part has a letter that is none of some."""
    return len([letter for letter in letters_in([part]) if letter not in letters]) > 0
