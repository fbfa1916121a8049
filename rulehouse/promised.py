"""What rules promise: which promises all that follows from facts that keep some keeps, and why not the others."""

from rulehouse.breaking import first_broken
from rulehouse.closings import apart
from rulehouse.deeds import can_be_done
from rulehouse.errors import NotGiven
from rulehouse.facts import Facts
from rulehouse.matching import is_call_of
from rulehouse.names import is_thing
from rulehouse.parts import filled_part, letters_in
from rulehouse.promises import Bundle, Promises, atoms_of_promise, breaks_at
from rulehouse.rules import is_number_of, refuse_nots


def _check_given(rules, given):
    """HasNot, then NotGiven for the first promise in which a relation of a head stands."""
    refuse_nots(rules)
    made = rules.made()
    for number, promise in enumerate(given.listed()):
        if any([atom[0] in made for atom in atoms_of_promise(promise)]):
            raise NotGiven(number)


def _broken_at_first(rules, given, promise):
    """A pair (facts, match) of a beginning that breaks a promise, None if there is none."""
    made = rules.made()
    if any([part[0] in made for part in promise[0]]):
        return None
    # Nothing forces facts of made relations to stand: given promises do not tell of them.
    return apart(Bundle(given.listed() + [promise]), len(given))


def _kind_of(rule):
    head, body = rule
    return (body, (), (head,))


def _next_out(rules, given, wanted, numbers):
    """A row of what rules can break of the wanted promises with some numbers, None if they can break none."""
    bundle = Bundle(given.listed() + [wanted.listed()[number] for number in numbers])
    for place, number in enumerate(numbers):
        for index, rule in enumerate(rules.listed()):
            found = first_broken(bundle, _kind_of(rule), len(given) + place)
            if found is not None:
                return (number, index) + found
    return None


def _rows(rules, given, wanted):
    """The rows of all wanted promises that fall out, one behind the other."""
    found = []
    left = []
    for number, promise in enumerate(wanted.listed()):
        told = _broken_at_first(rules, given, promise)
        if told is None:
            left.append(number)
        else:
            found.append((number, None, told[0], {}, told[1]))
    row = _next_out(rules, given, wanted, left)
    while row is not None:
        found.append(row)
        left = [number for number in left if number != row[0]]
        row = _next_out(rules, given, wanted, left)
    return found


def promised(rules, given, wanted):
    """The ascending list of the numbers of wanted promises that all beginnings keep and no rule can break."""
    _check_given(rules, given)
    out = [row[0] for row in _rows(rules, given, wanted)]
    return [number for number in range(len(wanted)) if number not in out]


def falling_out(rules, given, wanted):
    """The list of the rows (number, rule, facts, calls, match) that tell why the others are not promised."""
    _check_given(rules, given)
    return _rows(rules, given, wanted)


class Looking:
    """Rows of what falls out, looked through one behind the other."""

    def __init__(self, rules, given, wanted):
        self._rules = rules.listed()
        self._made = rules.made()
        self._given = given
        self._wanted = wanted.listed()
        self._out = []

    def look(self, thing):
        """Whether any object is a row that is right behind those looked at; if so, its promise is out."""
        if not isinstance(thing, (list, tuple)) or len(thing) != 5:
            return False
        number, index, facts, calls, match = thing
        if not is_number_of(number, self._wanted) or number in self._out or not isinstance(facts, Facts):
            return False
        if index is None:
            behind = self._behind_nothing(facts, calls)
        else:
            behind = self._behind_rule(index, facts, calls)
        if behind is None or not breaks_at(behind, self._wanted[number], match):
            return False
        self._out.append(number)
        return True

    def _behind_nothing(self, facts, calls):
        """The facts themselves if they are a beginning, None if not."""
        if not isinstance(calls, dict) or calls or self._given.all_broken(facts):
            return None
        return None if any([fact[0] in self._made for fact in facts.listed()]) else facts

    def _behind_rule(self, index, facts, calls):
        """The facts behind the rule's deed, None if it can't be done there or a promise is broken there."""
        if not is_number_of(index, self._rules) or self._given.all_broken(facts):
            return None
        kept = [promise for number, promise in enumerate(self._wanted) if number not in self._out]
        head, body = self._rules[index]
        if not is_call_of(letters_in(body + (head,)), calls, is_thing):
            return None
        if Promises(kept).all_broken(facts) or not can_be_done(body, facts, calls):
            return None
        return facts | Facts([filled_part(head, calls)])


def is_falling_out(rules, given, wanted, thing):
    """Whether any object is a list of rows that tell why wanted promises are not promised."""
    _check_given(rules, given)
    if not isinstance(thing, (list, tuple)):
        return False
    looking = Looking(rules, given, wanted)
    return all([looking.look(row) for row in thing])
