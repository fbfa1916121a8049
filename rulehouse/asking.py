"""Calls, and the ways along rules by which calls come up."""

from rulehouse.finding import clashes, extended
from rulehouse.names import is_name, is_thing, term_key
from rulehouse.parts import MOST_TERMS, letters_in


def as_call(thing):
    """The call that any object is, as a tuple, None if it is none."""
    if not isinstance(thing, (list, tuple)) or not 1 <= len(thing) <= MOST_TERMS + 1:
        return None
    if not is_name(thing[0]) or not all([place is None or is_thing(place) for place in thing[1:]]):
        return None
    return tuple(thing)


def call_key(call):
    """What calls are ordered by: as facts, None ahead of all things."""
    places = tuple([(-1,) if place is None else term_key(place) for place in call[1:]])
    return (call[0], len(call), places)


def call_of(atom, calls):
    """The call of an atom by calls that bind its things."""
    return (atom[0],) + tuple([calls.get(term) for term in atom[1:]])


def goal_call(goal):
    """The call of a goal by no letters."""
    return call_of(goal, {term: term for term in goal[1:] if is_thing(term)})


def agrees(fact, call):
    """Whether a fact agrees with a call."""
    if fact[0] != call[0] or len(fact) != len(call):
        return False
    return all([place is None or place == thing for place, thing in zip(call[1:], fact[1:])])


def calls_from(pattern, call):
    """The calls with which a way along a rule from a call begins, None if there is none."""
    if pattern.head[0] != call[0] or len(pattern.head) != len(call):
        return None
    calls = dict(pattern.seeds)
    for term, place in zip(pattern.head[1:], call[1:]):
        if place is not None and calls.setdefault(term, place) != place:
            return None
    if clashes(pattern.unlikes, calls):
        return None
    return calls


def step_on(pattern, index, fact, calls):
    """The calls behind one more atom, with this index, that becomes a fact; None if it can't."""
    more = extended(pattern.atoms[index], fact, calls)
    if more is None or clashes(pattern.unlikes, more):
        return None
    return more


def _kept_letters(pattern, many, calls, to_head):
    """The letters that calls behind so many atoms bind and that are still asked for behind them."""
    asked = list(pattern.atoms[many:])
    if to_head:
        asked.append(pattern.head)
    for one, other in pattern.unlikes:
        if one not in calls or other not in calls:
            asked.append(("unlike", one, other))
    return [letter for letter in letters_in(asked) if letter in calls]


def _next_stage(pattern, index, stage, facts_of, to_head):
    """The stage behind one more atom than a stage."""
    found = {}
    kept = None
    for calls, facts in list(stage.values()):
        for fact in facts_of(call_of(pattern.atoms[index], calls)):
            more = step_on(pattern, index, fact, calls)
            if more is None:
                continue
            if kept is None:
                kept = _kept_letters(pattern, index + 1, more, to_head)
            key = tuple([more[letter] for letter in kept])
            if key not in found:
                thinned = dict(pattern.seeds)
                for letter in kept:
                    thinned[letter] = more[letter]
                found[key] = (thinned, facts + (fact,))
    return found


def stages(pattern, call, facts_of, to_head):
    """The ways along a rule from a call, by how many atoms they are behind.

    facts_of leads calls to the facts that atoms may become. Each stage is a dict whose values are
    pairs (calls, facts) of ways; those alike in all letters that are still asked for are told as
    one, as all goes on from them alike. Without to_head the last stage is ahead of the last atom.
    """
    calls = calls_from(pattern, call)
    if calls is None:
        return []
    found = [{(): (calls, ())}]
    many = len(pattern.atoms) if to_head else len(pattern.atoms) - 1
    for index in range(many):
        found.append(_next_stage(pattern, index, found[index], facts_of, to_head))
    return found


def links_from(pattern, call, facts_of):
    """The list of the pairs (call, facts) of calls that come up along a rule from a call."""
    found = []
    for atom, stage in zip(pattern.atoms, stages(pattern, call, facts_of, False)):
        for calls, facts in list(stage.values()):
            found.append((call_of(atom, calls), facts))
    return found
