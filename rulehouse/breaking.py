"""What deeds can break, why others can not, and what is left to look at behind a deed."""

from rulehouse.closings import check_number, is_same_case
from rulehouse.deeds import as_deed, as_kind, cases_of, things_asked
from rulehouse.errors import BadDeed, BadKind
from rulehouse.facts import Facts
from rulehouse.finding import extended
from rulehouse.freezing import first_new
from rulehouse.names import term_key
from rulehouse.promises import clauses_of
from rulehouse.shutting import Search, is_closing


def _checked_deed(deed):
    kept = as_deed(deed)
    if kept is None:
        raise BadDeed(deed)
    return kept


def done_deed(facts, deed):
    """The facts without those that a deed takes, and then with those that it puts."""
    kept = _checked_deed(deed)
    return (facts - Facts(kept[1])) | Facts(kept[2])


def _search(promises, kind):
    things = things_asked(promises, kind)
    return Search(promises, list(range(len(promises))), things, first_new(things))


def _checked_kind(promises, kind, number):
    """The kind as tuples: BadKind, then NoPromise."""
    kept = as_kind(kind)
    if kept is None:
        raise BadKind(kind)
    check_number(promises, number)
    return kept


def first_broken(promises, kind, number):
    """What breaking tells of a kind, of tuples, and the number of a promise."""
    search = _search(promises, kind)
    for case in cases_of(promises, kind, number):
        if case.is_touched:
            grounds = search.grounds(case.all_things())
            if grounds.closing(case.held, case.barred) is None:
                return (Facts(grounds.left_open()), case.calls, case.match)
    return None


def breaking(promises, kind, number):
    """A triple (facts, calls, match) by which a deed of a kind breaks a promise, None if none can."""
    return first_broken(promises, _checked_kind(promises, kind, number), number)


def safe_closings(promises, kind, number):
    """The list of the pairs (case, closing) of all cases of a kind and a promise, None if a deed can break it."""
    kept = _checked_kind(promises, kind, number)
    search = _search(promises, kept)
    found = []
    for case in cases_of(promises, kept, number):
        told = search.grounds(case.all_things()).closing(case.held, case.barred)
        if told is None:
            return None
        found.append(((case.calls, case.match), told))
    return found


def are_safe_closings(promises, kind, number, thing):
    """Whether any object is a list of the pairs (case, closing) of all cases of a kind and a promise, in order."""
    kept = _checked_kind(promises, kind, number)
    if not isinstance(thing, (list, tuple)):
        return False
    cases = cases_of(promises, kept, number)
    if len(thing) != len(cases):
        return False
    for pair, case in zip(thing, cases):
        if not isinstance(pair, (list, tuple)) or len(pair) != 2:
            return False
        told = pair[0]
        if not isinstance(told, (list, tuple)) or len(told) != 2:
            return False
        if not is_same_case(told[0], case.calls) or not is_same_case(told[1], case.match):
            return False
        if not is_closing(promises, None, case.held, case.barred, pair[1]):
            return False
    return True


def _touched(clause, deed):
    """The list of the calls by which a promise has to do with what a deed puts or takes away."""
    body, takes, puts = deed
    gone = [fact for fact in takes if fact not in puts]
    pairs = [(atom, fact) for atom in clause.atoms for fact in puts]
    pairs.extend([(atom, fact) for atom in clause.nots + clause.ways for fact in gone])
    found = []
    for atom, fact in pairs:
        same = atom[0] == fact[0] and len(atom) == len(fact)
        calls = extended(atom, fact, clause.seeds) if same else None
        if calls is not None:
            told = {letter: calls[letter] for letter in clause.letters if letter in calls}
            if told not in found:
                found.append(told)
    return found


def _has_all(calls, others):
    """Whether calls have all of some others."""
    return all([letter in calls and calls[letter] == others[letter] for letter in others])


def _broken_matches(promises, deed, number):
    """The list of the matches of a promise, up to names of new things, at which a deed can break it."""
    search = _search(promises, deed)
    cases = [case for case in cases_of(promises, deed, number) if case.is_touched]
    return [case.match for case in cases if search.grounds(case.all_things()).closing(case.held, case.barred) is None]


def _look_key(calls):
    return ([term_key(letter) for letter in calls], [term_key(calls[letter]) for letter in calls])


def looks(promises, deed):
    """The list of the looks (number, calls) at which a deed can break promises."""
    kept = _checked_deed(deed)
    found = []
    for number, clause in enumerate(clauses_of(promises)):
        touched = _touched(clause, kept)
        matches = _broken_matches(promises, kept, number) if touched else []
        told = [calls for calls in touched if any([_has_all(match, calls) for match in matches])]
        least = [calls for calls in told if not any([_has_all(calls, other) for other in told if other != calls])]
        found.extend([(number, calls) for calls in sorted(least, key=_look_key)])
    return found
