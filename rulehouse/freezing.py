"""Letters taken for things: those that are named, and integers that nothing names."""

from rulehouse.finding import calls_key
from rulehouse.names import is_letter, term_key
from rulehouse.parts import terms_of


def things_named(parts):
    """The list of the things that stand in parts, in THE ORDER."""
    found = {}
    for part in parts:
        for term in terms_of(part):
            if not is_letter(term):
                found[term] = True
    return sorted(list(found), key=term_key)


def parts_of_rules(listed):
    """The heads of rules and the parts of their bodies."""
    return [part for head, body in listed for part in (head,) + body]


def first_new(things):
    """The first integer from 0 on behind all that stand among things."""
    return max([thing for thing in things if isinstance(thing, int)] + [-1]) + 1


def frozen_calls(letters, first):
    """The dict from letters to the integers from a first one on."""
    return {letter: first + index for index, letter in enumerate(letters)}


def calls_up_to_names(letters, things, first):
    """All dicts from letters to things and to integers from a first one on, in order.

    Each such integer stands only behind all lesser ones from the first one on.
    """
    rows = [({}, 0)]
    for letter in letters:
        longer = []
        for calls, many in rows:
            longer.extend([({**calls, letter: thing}, many) for thing in things])
            longer.extend([({**calls, letter: first + new}, max(many, new + 1)) for new in range(many + 1)])
        rows = longer
    return sorted([calls for calls, many in rows], key=calls_key)
