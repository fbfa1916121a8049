"""Atoms, facts, parts, bodies and rules, and the letters in them."""

from rulehouse.errors import BadBody, BadCalls
from rulehouse.names import is_letter, is_name, is_term, is_thing, term_key

MOST_TERMS = 6


def _is_row(thing):
    """Whether any object is a list of a relation and at most six places of any kind."""
    if not isinstance(thing, (list, tuple)) or not 1 <= len(thing) <= MOST_TERMS + 1:
        return False
    return is_name(thing[0])


def as_atom(thing):
    """The atom that any object is, of tuples, None if it is none."""
    if not _is_row(thing) or not all([is_term(term) for term in thing[1:]]):
        return None
    return tuple(thing)


def as_fact(thing):
    """The fact that any object is, of tuples, None if it is none."""
    if not _is_row(thing) or not all([is_thing(term) for term in thing[1:]]):
        return None
    return tuple(thing)


def _as_not(thing):
    if len(thing) != 2:
        return None
    atom = as_atom(thing[1])
    if atom is None:
        return None
    return ("not", atom)


def _as_unlike(thing):
    if len(thing) != 3 or not is_term(thing[1]) or not is_term(thing[2]):
        return None
    return tuple(thing)


def as_part(thing):
    """The part that any object is, of tuples, None if it is none."""
    if not isinstance(thing, (list, tuple)) or len(thing) == 0 or not isinstance(thing[0], str):
        return None
    if thing[0] == "not":
        return _as_not(thing)
    if thing[0] == "unlike":
        return _as_unlike(thing)
    return as_atom(thing)


def checked_body(thing):
    """The tuple of the parts of a body, of tuples; BadBody for the first thing that is none."""
    if not isinstance(thing, (list, tuple)):
        raise BadBody(0)
    parts = []
    for index, part in enumerate(thing):
        parts.append(as_part(part))
        if parts[-1] is None:
            raise BadBody(index)
    return tuple(parts)


def as_body(thing):
    """The tuple of the parts that any object is, None if it is no body."""
    if not isinstance(thing, (list, tuple)):
        return None
    parts = tuple([as_part(part) for part in thing])
    if None in parts:
        return None
    return parts


def as_rule(thing):
    """The rule that any object is, of tuples, None if it is none."""
    if not isinstance(thing, (list, tuple)) or len(thing) != 2:
        return None
    head = as_atom(thing[0])
    body = as_body(thing[1])
    if head is None or body is None:
        return None
    return (head, body)


def is_atom(thing):
    """Whether any object is an atom."""
    return as_atom(thing) is not None


def is_fact(thing):
    """Whether any object is a fact, an atom without letters."""
    return as_fact(thing) is not None


def is_part(thing):
    """Whether any object is a part: an atom, a not or an unlike."""
    return as_part(thing) is not None


def is_body(thing):
    """Whether any object is a body, a list of parts."""
    return as_body(thing) is not None


def is_rule(thing):
    """Whether any object is a rule, safe or not."""
    return as_rule(thing) is not None


def atom_key(atom):
    """What facts and atoms are ordered by."""
    return (atom[0], len(atom), tuple([term_key(term) for term in atom[1:]]))


def is_plain(part):
    """Whether a part is an atom."""
    return part[0] not in ("not", "unlike")


def atom_of(part):
    """The atom of an atom or a not, None of an unlike."""
    if part[0] == "not":
        return part[1]
    if part[0] == "unlike":
        return None
    return part


def terms_of(part):
    """The terms of a part, of a not those of its atom, in order."""
    if part[0] == "not":
        return part[1][1:]
    return part[1:]


def letters_in(parts):
    """The letters of parts, in the order in which they first stand."""
    found = {}
    for part in parts:
        for term in terms_of(part):
            if is_letter(term):
                found[term] = True
    return list(found)


def loose_letters(parts, body):
    """The letters of parts that stand in no plain atom of a body."""
    held = letters_in([part for part in body if is_plain(part)])
    return [letter for letter in letters_in(parts) if letter not in held]


def loose_in_rule(rule):
    """The letters that keep a rule from being safe, in the order of head and then body."""
    head, body = rule
    return loose_letters([head] + [part for part in body if not is_plain(part)], body)


def filled_part(part, calls):
    """A part with terms put in for letters; letters that calls lacks stay."""
    if part[0] == "not":
        return ("not", filled_part(part[1], calls))
    return (part[0],) + tuple([calls.get(term, term) for term in part[1:]])


def letters_of(body):
    """The list of the letters of a body, in the order in which they first stand in it."""
    return letters_in(checked_body(body))


def put_in(body, calls):
    """The body with terms put in for letters."""
    parts = checked_body(body)
    if not isinstance(calls, dict):
        raise BadCalls(calls)
    for letter, term in calls.items():
        if not is_letter(letter) or not is_term(term):
            raise BadCalls(letter)
    return [filled_part(part, calls) for part in parts]
