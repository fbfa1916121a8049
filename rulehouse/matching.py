"""Matches of bodies in sets of facts, and answers to questions."""

from rulehouse.errors import BadQuestion, Unsafe
from rulehouse.facts import Facts
from rulehouse.finding import Pattern, Shelves, clashes, filled, is_barred, sorted_matches
from rulehouse.names import is_thing
from rulehouse.parts import as_rule, checked_body, is_plain, loose_in_rule, loose_letters


def _checked_pattern(body):
    """The pattern of a safe body: BadBody, then Unsafe."""
    parts = checked_body(body)
    for index, part in enumerate(parts):
        loose = [] if is_plain(part) else loose_letters([part], parts)
        if loose:
            raise Unsafe(index, loose[0])
    return Pattern(parts)


def _matches(facts, pattern):
    shelves = Shelves(facts.listed())
    return sorted_matches(pattern, shelves, shelves.known, pattern.seeds)


def matches(facts, body):
    """The list of all matches of a body in facts, in their order."""
    return _matches(facts, _checked_pattern(body))


def many_matches(facts, body):
    """The number of the matches of a body in facts."""
    return len(_matches(facts, _checked_pattern(body)))


def is_call_of(letters, thing, is_value):
    """Whether any object is a dict from just these letters to values of a kind."""
    if not isinstance(thing, dict) or len(thing) != len(letters):
        return False
    return all([letter in thing and is_value(thing[letter]) for letter in letters])


def is_match(facts, body, thing):
    """Whether any object is a match of a body in facts."""
    pattern = _checked_pattern(body)
    if not is_call_of(pattern.letters, thing, is_thing):
        return False
    calls = {**pattern.seeds, **thing}
    if clashes(pattern.unlikes, calls):
        return False
    known = Shelves(facts.listed()).known
    return all([filled(atom, calls) in known for atom in pattern.atoms]) and not is_barred(pattern, calls, known)


def checked_question(question):
    """The safe rule that a question is, of tuples; BadQuestion for any other object."""
    rule = as_rule(question)
    if rule is None or loose_in_rule(rule):
        raise BadQuestion(question)
    return rule


def answers_of(facts, question):
    """The Facts that the matches of a question make of its head."""
    head, body = checked_question(question)
    pattern = Pattern(body, head)
    return Facts([filled(head, {**pattern.seeds, **calls}) for calls in _matches(facts, pattern)])
