"""Levels of rules with nots, the rings that stand against them, and what comes level by level."""

from rulehouse.errors import RingThroughNot
from rulehouse.facts import Facts
from rulehouse.finding import Pattern, patterns_of
from rulehouse.growing import grown
from rulehouse.linking import is_strict_ring, least_levels, strict_ring
from rulehouse.parts import atom_of
from rulehouse.rules import atoms_of, is_number_of


def _links(rules):
    """The dict from all links to triples (from, to, whether behind a not)."""
    found = {}
    for number, rule in enumerate(rules.listed()):
        for index, part in enumerate(rule[1]):
            atom = atom_of(part)
            if atom is not None:
                found[(number, index)] = (rule[0][0], atom[0], part[0] == "not")
    return found


def ring_through_not(rules):
    """A not ring of as few links as can be, None if there is none."""
    return strict_ring(_links(rules))


def is_not_ring(rules, thing):
    """Whether any object is a not ring."""
    if not isinstance(thing, (list, tuple)) or len(thing) == 0:
        return False
    listed = rules.listed()
    links = _links(rules)
    told = []
    for link in thing:
        if not isinstance(link, (list, tuple)) or len(link) != 2 or not is_number_of(link[0], listed):
            return False
        if not is_number_of(link[1], listed[link[0]][1]) or tuple(link) not in links:
            return False
        told.append(links[tuple(link)])
    return is_strict_ring(told)


def levels(rules):
    """The dict from all relations, ascending, to their levels, None if there are none."""
    if ring_through_not(rules) is not None:
        return None
    relations = {atom[0]: True for rule in rules.listed() for atom in atoms_of(rule)}
    return least_levels(_links(rules), list(relations))


def _refuse_rings(rules):
    ring = ring_through_not(rules)
    if ring is not None:
        raise RingThroughNot(ring)


def grown_at(rules, found, level, standing):
    """The list of what stands behind a level, of rules with levels, if what stands ahead of it is standing."""
    patterns = [Pattern(body, head) for head, body in rules.listed() if found[head[0]] == level]
    # What stands behind nots is of lesser levels, so nothing of it comes at this one.
    return list(grown(patterns, standing, {fact: True for fact in standing}))


def refuse_rings_through_nots(rules):
    """Raises RingThroughNot with a not ring of as few links as can be, if there is one."""
    _stages(rules)


def _stages(rules):
    """The list, level by level, of the lists of patterns with this level, made once and kept with the rules."""
    if "stages" not in rules.memory:
        _refuse_rings(rules)
        found = levels(rules)
        patterns = patterns_of(rules)
        rules.memory["stages"] = [[pattern for pattern in patterns if found[pattern.head[0]] == level]
                                  for level in range(max(list(found.values()), default=-1) + 1)]
    return rules.memory["stages"]


def by_levels(rules, facts):
    """The Facts of what comes of facts level by level."""
    standing = facts.listed()
    for patterns in _stages(rules):
        if patterns:
            # What stands behind nots is of lesser levels, so nothing of it comes at this one.
            standing = list(grown(patterns, standing, {fact: True for fact in standing}))
    return Facts(standing)
