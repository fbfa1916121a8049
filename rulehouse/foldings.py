"""Foldings of plain bodies into one another, and least parts of questions."""

from rulehouse.errors import NotPlain
from rulehouse.finding import Pattern, Shelves, calls_key, found_calls, is_found, letters_alone
from rulehouse.matching import checked_question, is_call_of
from rulehouse.names import is_term
from rulehouse.orders import checked_plain
from rulehouse.parts import filled_part, is_plain, letters_in


def foldings(one, other):
    """The list of all foldings of a plain body into another one, ordered by their terms."""
    pattern = Pattern(checked_plain(one))
    shelves = Shelves(checked_plain(other))
    found = found_calls(shelves, pattern.atoms, (), pattern.seeds)
    return sorted([letters_alone(pattern, calls) for calls in found], key=calls_key)


def is_folding(one, other, thing):
    """Whether any object is a folding of a plain body into another one."""
    atoms = checked_plain(one)
    known = Shelves(checked_plain(other)).known
    if not is_call_of(letters_in(atoms), thing, is_term):
        return False
    return all([filled_part(atom, thing) in known for atom in atoms])


def _holds(head, body, left):
    """Whether atoms hold a question: whether its body folds into them and its head stays."""
    pattern = Pattern(body)
    fixed = {letter: letter for letter in letters_in([head])}
    return is_found(Shelves(left), pattern.atoms, {**pattern.seeds, **fixed})


def least_part(question):
    """The pair (head, atoms) of a plain question with a least part of its body."""
    head, body = checked_question(question)
    for index, part in enumerate(body):
        if not is_plain(part):
            raise NotPlain(index)
    left = list(body)
    for index in reversed(range(len(body))):
        fewer = left[:index] + left[index + 1:]
        if _holds(head, body, fewer):
            left = fewer
    return (head, tuple(left))
