"""Whether a promise follows from others, case by case: by closings, or by facts that part them."""

from rulehouse.errors import NoPromise
from rulehouse.facts import Facts
from rulehouse.finding import clashes, filled
from rulehouse.freezing import calls_up_to_names, first_new, things_named
from rulehouse.matching import is_call_of
from rulehouse.names import is_thing
from rulehouse.promises import clauses_of, is_number_in
from rulehouse.shutting import Search, is_closing


def check_number(promises, number):
    """Raises NoPromise for any object that is no number of a promise."""
    if not is_number_in(promises, number):
        raise NoPromise(number)


def parts_of_promises(promises):
    """All parts of bodies, and all ways."""
    return [part for body, ways in promises.listed() for part in body + ways]


def _cases(promises, number):
    """The list of all cases of a promise, as triples (calls, held facts, barred facts)."""
    clause = clauses_of(promises)[number]
    things = things_named(parts_of_promises(promises))
    found = []
    for case in calls_up_to_names(clause.letters, things, first_new(things)):
        calls = {**clause.seeds, **case}
        if not clashes(clause.unlikes, calls):
            held = [filled(atom, calls) for atom in clause.atoms]
            found.append((case, held, [filled(atom, calls) for atom in clause.nots + clause.ways]))
    return found


def _search(promises, number):
    others = [other for other in range(len(promises)) if other != number]
    things = things_named(parts_of_promises(promises))
    return Search(promises, others, things, first_new(things))


def closings(promises, number):
    """The list of the pairs (case, closing) of all cases of a promise, None if it does not follow from the others."""
    check_number(promises, number)
    search = _search(promises, number)
    found = []
    for case, held, barred in _cases(promises, number):
        told = search.grounds(list(case.values())).closing(held, barred)
        if told is None:
            return None
        found.append((case, told))
    return found


def apart(promises, number):
    """The pair (facts, match) of facts that keep all other promises and break one at the match, None if it follows."""
    search = _search(promises, number)
    for case, held, barred in _cases(promises, number):
        grounds = search.grounds(list(case.values()))
        if grounds.closing(held, barred) is None:
            return Facts(grounds.left_open()), case
    return None


def facts_apart(promises, number):
    """Facts that keep all other promises and break the one with a number, None if it follows from them."""
    check_number(promises, number)
    found = apart(promises, number)
    return None if found is None else found[0]


def is_same_case(thing, case):
    """Whether any object is a dict with just the calls of a case."""
    return is_call_of(list(case), thing, is_thing) and all([thing[letter] == case[letter] for letter in case])


def are_closings(promises, number, thing):
    """Whether any object is a list of the pairs (case, closing) of all cases of a promise, in order."""
    check_number(promises, number)
    if not isinstance(thing, (list, tuple)):
        return False
    cases = _cases(promises, number)
    if len(thing) != len(cases):
        return False
    for pair, (case, held, barred) in zip(thing, cases):
        if not isinstance(pair, (list, tuple)) or len(pair) != 2 or not is_same_case(pair[0], case):
            return False
        if not is_closing(promises, number, held, barred, pair[1]):
            return False
    return True
