"""What comes of facts by rules, round by round."""

from rulehouse.finding import Shelves, clashes, extended, filled, found_calls, is_barred


def _heads_by(pattern, shelves, barred, fresh):
    """The facts that the head becomes by matches in which one atom at least is a fresh fact."""
    found = {}
    for index, atom in enumerate(pattern.atoms):
        rest = pattern.atoms[:index] + pattern.atoms[index + 1:]
        for fact in fresh.get((atom[0], len(atom)), []):
            calls = extended(atom, fact, pattern.seeds)
            if calls is None:
                continue
            for more in found_calls(shelves, rest, pattern.unlikes, calls):
                if not is_barred(pattern, more, barred):
                    found[filled(pattern.head, more)] = True
    return list(found)


def _heads_of_nothing(pattern, barred):
    """The fact that a head is by a body without atoms, in a list, if the body holds."""
    if pattern.atoms or clashes(pattern.unlikes, pattern.seeds) or is_barred(pattern, pattern.seeds, barred):
        return []
    return [filled(pattern.head, pattern.seeds)]


def _by_kinds(facts):
    """The dict from relations with lengths to the facts that have them."""
    kinds = {}
    for fact in facts:
        kinds.setdefault((fact[0], len(fact)), []).append(fact)
    return kinds


def grown(patterns, facts, barred):
    """The dict from all that comes of facts to the rounds in which it does, given facts in round 0.

    No match counts in which a fact behind a not is one of the barred ones.
    """
    shelves = Shelves(facts)
    rounds = {fact: 0 for fact in facts}
    fresh = facts
    heads = [fact for pattern in patterns for fact in _heads_of_nothing(pattern, barred)]
    many = 0
    while fresh or heads:
        kinds = _by_kinds(fresh)
        for pattern in patterns:
            heads.extend(_heads_by(pattern, shelves, barred, kinds))
        many += 1
        fresh = []
        for fact in heads:
            if fact not in rounds:
                rounds[fact] = many
                fresh.append(fact)
                shelves.put(fact)
        heads = []
    return rounds
