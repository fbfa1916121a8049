"""Levels of rules with nots, the rings that stand against them, and what comes level by level."""

from rulehouse.errors import RingThroughNot
from rulehouse.facts import Facts
from rulehouse.finding import Pattern
from rulehouse.growing import grown
from rulehouse.parts import atom_of
from rulehouse.rules import atoms_of, is_number_of


def _links(rules):
    """The dict from all links to triples (from, to, whether behind a not)."""
    found = {}
    for number, rule in enumerate(rules.listed()):
        for index, part in enumerate(rule[1]):
            atom = atom_of(part)
            if atom is not None:
                found[(number, index)] = (rule[0][0], atom[0], part[0] == "not")
    return found


def _shortest(links, start, end):
    """The list of as few links as can be from one relation to another, None if there is none."""
    ways = {start: []}
    left = [start]
    while left and end not in ways:
        later = []
        for link, (one, other, is_not) in links.items():
            if one in left and other not in ways:
                ways[other] = ways[one] + [link]
                later.append(other)
        left = later
    return ways.get(end)


def ring_through_not(rules):
    """A not ring of as few links as can be, None if there is none."""
    links = _links(rules)
    best = None
    for link, (one, other, is_not) in links.items():
        way = _shortest(links, other, one) if is_not else None
        if way is not None and (best is None or len(way) + 1 < len(best)):
            best = [link] + way
    return best


def is_not_ring(rules, thing):
    """Whether any object is a not ring."""
    if not isinstance(thing, (list, tuple)) or len(thing) == 0:
        return False
    listed = rules.listed()
    links = _links(rules)
    told = []
    for link in thing:
        if not isinstance(link, (list, tuple)) or len(link) != 2 or not is_number_of(link[0], listed):
            return False
        if not is_number_of(link[1], listed[link[0]][1]) or tuple(link) not in links:
            return False
        told.append(links[tuple(link)])
    for ahead, link in zip(told[-1:] + told[:-1], told):
        if ahead[1] != link[0]:
            return False
    return any([link[2] for link in told])


def _raised(found, links):
    """The levels behind one more look at all links."""
    more = dict(found)
    for one, other, is_not in list(links.values()):
        more[one] = max(more[one], more[other] + (1 if is_not else 0))
    return more


def levels(rules):
    """The dict from all relations, ascending, to their levels, None if there are none."""
    if ring_through_not(rules) is not None:
        return None
    links = _links(rules)
    relations = {atom[0]: True for rule in rules.listed() for atom in atoms_of(rule)}
    found = {relation: 0 for relation in sorted(list(relations))}
    more = _raised(found, links)
    while more != found:
        found = more
        more = _raised(found, links)
    return found


def _refuse_rings(rules):
    ring = ring_through_not(rules)
    if ring is not None:
        raise RingThroughNot(ring)


def by_levels(rules, facts):
    """The Facts of what comes of facts level by level."""
    _refuse_rings(rules)
    found = levels(rules)
    standing = facts.listed()
    for level in range(max(list(found.values()), default=-1) + 1):
        patterns = [Pattern(body, head) for head, body in rules.listed() if found[head[0]] == level]
        # What stands behind nots is of lesser levels, so nothing of it comes at this one.
        standing = list(grown(patterns, standing, {fact: True for fact in standing}))
    return Facts(standing)
