"""Atoms taken together, and rules unfolded."""

from rulehouse.errors import NoAtom, NoPart, NoRule, NoRuleThing
from rulehouse.names import is_letter, nth_letter
from rulehouse.parts import as_atom, as_rule, filled_part, is_plain, letters_in
from rulehouse.rules import is_number_of

MINE = 0
THEIRS = 1
THING = 2


def _in_plain_form(rule):
    head, body = rule
    calls = {}
    for number, letter in enumerate(letters_in((head,) + tuple(body))):
        calls[letter] = nth_letter(number)
    return (filled_part(head, calls), tuple([filled_part(part, calls) for part in body]))


def plain_form(rule):
    """The rule with the letters A, B, .. in the order in which its letters first stand."""
    kept = as_rule(rule)
    if kept is None:
        raise NoRuleThing(rule)
    return _in_plain_form(kept)


def _node(side, term):
    """A term as one of its side: things are the same on both sides."""
    if is_letter(term):
        return (side, term)
    return (THING, term)


def _leader(leaders, node):
    while node in leaders:
        node = leaders[node]
    return node


def _tied(one, other):
    """The dict from nodes to those that they are led to, None if the atoms can't become one."""
    leaders = {}
    for mine, theirs in zip(one[1:], other[1:]):
        first = _leader(leaders, _node(MINE, mine))
        second = _leader(leaders, _node(THEIRS, theirs))
        if first == second:
            continue
        if first[0] != THING:
            leaders[first] = second
        elif second[0] != THING:
            leaders[second] = first
        else:
            return None
    return leaders


def _taken_together(one, other):
    """What joined tells of two atoms."""
    if one[0] != other[0] or len(one) != len(other):
        return None
    leaders = _tied(one, other)
    if leaders is None:
        return None
    terms = {}
    many = 0
    for term in one[1:]:
        node = _leader(leaders, _node(MINE, term))
        if node[0] == THING:
            terms[node] = node[1]
        elif node not in terms:
            terms[node] = nth_letter(many)
            many += 1
    mine = {letter: terms[_leader(leaders, (MINE, letter))] for letter in letters_in([one])}
    theirs = {letter: terms[_leader(leaders, (THEIRS, letter))] for letter in letters_in([other])}
    return (mine, theirs)


def joined(one, other):
    """The most general pair of dicts by which two atoms become one, None if they can't."""
    first = as_atom(one)
    if first is None:
        raise NoAtom(one)
    second = as_atom(other)
    if second is None:
        raise NoAtom(other)
    return _taken_together(first, second)


def _with_fresh(calls, rule, first):
    """The calls, and for the rule's other letters new ones, from the one with number first on."""
    more = {letter: term for letter, term in calls.items()}
    for letter in letters_in((rule[0],) + rule[1]):
        if letter not in more:
            more[letter] = nth_letter(first)
            first += 1
    return more, first


def unfolded_by(rule, index, other):
    """The rule with another rule's body in the place of an atom, None if it can't be."""
    pair = _taken_together(rule[1][index], other[0])
    if pair is None:
        return None
    used = [term for calls in pair for term in calls.values() if is_letter(term)]
    mine, first = _with_fresh(pair[0], rule, len(used))
    theirs, first = _with_fresh(pair[1], other, first)
    parts = [filled_part(part, mine) for part in rule[1]]
    parts[index:index + 1] = [filled_part(part, theirs) for part in other[1]]
    return _in_plain_form((filled_part(rule[0], mine), parts))


def unfolded(rules, number, index):
    """The list of the rules that come of one by taking an atom of its body with the heads."""
    listed = rules.listed()
    if not is_number_of(number, listed):
        raise NoRule(number)
    rule = listed[number]
    if not is_number_of(index, rule[1]) or not is_plain(rule[1][index]):
        raise NoPart(index)
    found = [unfolded_by(rule, index, other) for other in listed]
    return [other for other in found if other is not None]
