"""Atoms of a plain rule taken together, all at once, with heads of others."""

from rulehouse.names import is_letter, nth_letter

OWN = -1
THING = -2


def _leader(leaders, node):
    while node in leaders:
        node = leaders[node]
    return node


def _node(side, term):
    """A term as one of its side: things are the same on all sides."""
    return (side, term) if is_letter(term) else (THING, term)


def _tied(leaders, one, side, other):
    """The leaders by which an atom of the rule is the head of a side, too; None if it can't be."""
    if one[0] != other[0] or len(one) != len(other):
        return None
    more = {node: leader for node, leader in leaders.items()}
    for mine, theirs in zip(one[1:], other[1:]):
        first = _leader(more, _node(OWN, mine))
        second = _leader(more, _node(side, theirs))
        if first == second:
            continue
        if first[0] != THING:
            more[first] = second
        elif second[0] != THING:
            more[second] = first
        else:
            return None
    return more


def _filled(leaders, letters, side, atom):
    """An atom of a side with what its terms are led to; new letters are put to those that are in use."""
    terms = [atom[0]]
    for term in atom[1:]:
        node = _leader(leaders, _node(side, term))
        if node[0] != THING and node not in letters:
            letters[node] = nth_letter(len(letters))
        terms.append(node[1] if node[0] == THING else letters[node])
    return tuple(terms)


def _rule_by(rule, chosen, leaders):
    """The rule with the bodies of what was chosen in the places of its atoms, with letters A, B, .."""
    letters = {}
    head = _filled(leaders, letters, OWN, rule[0])
    body = []
    for side, atom in enumerate(rule[1]):
        if chosen[side] is None:
            body.append(_filled(leaders, letters, OWN, atom))
        else:
            body.extend([_filled(leaders, letters, side, other) for other in chosen[side][1]])
    return (head, tuple(body))


def taken_together(rule, others, wanted):
    """The list of what comes of a rule by taking atoms of its body together with heads of others.

    wanted tells by their places which of the others may not all lack.
    """
    rows = [([], {}, False)]
    for side, atom in enumerate(rule[1]):
        longer = []
        for chosen, leaders, has_wanted in rows:
            longer.append((chosen + [None], leaders, has_wanted))
            for index, other in enumerate(others):
                tied = _tied(leaders, atom, side, other[0])
                if tied is not None:
                    longer.append((chosen + [other], tied, has_wanted or wanted[index]))
        rows = longer
    return [_rule_by(rule, chosen, leaders) for chosen, leaders, has_wanted in rows if has_wanted]
