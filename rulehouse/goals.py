"""Goals: what of all that follows they ask for, and papers for what comes up and what does not."""

from rulehouse.asking import agrees, as_call, call_key, call_of, calls_from, goal_call, links_from, stages, step_on
from rulehouse.askrules import Asking
from rulehouse.errors import BadCall, NoAtom
from rulehouse.facts import Facts
from rulehouse.finding import Pattern, Shelves, filled, patterns_of, sorted_matches
from rulehouse.following import all_heights, checked_fact
from rulehouse.parts import as_atom, as_fact, atom_key
from rulehouse.rules import Rules, is_number_of, refuse_nots


def _checked_goal(goal):
    atom = as_atom(goal)
    if atom is None:
        raise NoAtom(goal)
    return atom


def answers(rules, facts, goal):
    """The list of the matches of a goal in what follows, in their order."""
    refuse_nots(rules)
    pattern = Pattern([_checked_goal(goal)])
    return sorted_matches(pattern, Shelves(list(all_heights(rules, facts))), {}, pattern.seeds)


class Search:
    """A search from the top: the calls that come up, with the links by which they first did."""

    def __init__(self, rules, facts, goal):
        self._shelves = Shelves(list(all_heights(rules, facts)))
        self.came = {goal_call(goal): None}
        patterns = patterns_of(rules)
        left = list(self.came)
        # Calls are asked in the order in which they came up, so that each comes by fewest links.
        while left:
            later = []
            for call in left:
                later.extend(self.asked_by(patterns, call))
            left = later

    def agreeing(self, call):
        """The facts that follow and agree with a call."""
        return self._shelves.rows(call, {place: place for place in call[1:] if place is not None})

    def asked_by(self, patterns, call):
        """The list of the calls that come up by one link from a call and did not ahead."""
        found = []
        for number, pattern in enumerate(patterns):
            for other, facts in links_from(pattern, call, lambda asked: self.agreeing(asked)):
                if other not in self.came:
                    self.came[other] = (call, (number, facts))
                    found.append(other)
        return found

    def links_to(self, call):
        """The list of the links to a call that came up."""
        links = []
        while self.came[call] is not None:
            call, link = self.came[call]
            links.append(link)
        return links[::-1]


def goal_table(rules, facts, goal):
    """The dict from the calls that come up to all facts that follow and agree with them."""
    refuse_nots(rules)
    search = Search(rules, facts, _checked_goal(goal))
    calls = sorted(list(search.came), key=call_key)
    return {call: sorted(search.agreeing(call), key=atom_key) for call in calls}


def _as_table(thing):
    """The dict from calls to lists of agreeing facts that any object is, None if it is none."""
    if not isinstance(thing, dict):
        return None
    table = {}
    for key, told in thing.items():
        call = as_call(key)
        if call is None or not isinstance(told, (list, tuple)):
            return None
        facts = [as_fact(fact) for fact in told]
        if not all([fact is not None and agrees(fact, call) for fact in facts]):
            return None
        table[call] = list({fact: True for fact in facts})
    return table


def _has_given(table, facts):
    """Whether the lists of a table have all given facts that agree with their calls."""
    for call, told in table.items():
        known = {fact: True for fact in told}
        if not all([fact in known for fact in facts.of(call[0], len(call) - 1) if agrees(fact, call)]):
            return False
    return True


def _is_closed_along(pattern, call, table):
    """Whether a table has all calls, and in the call's list all heads, of ways along a rule."""
    def facts_of(other):
        return table.get(other, [])

    rows = stages(pattern, call, facts_of, True)
    for atom, stage in zip(pattern.atoms, rows):
        for calls, facts in list(stage.values()):
            if call_of(atom, calls) not in table:
                return False
    heads = [filled(pattern.head, pair[0]) for stage in rows[len(pattern.atoms):] for pair in list(stage.values())]
    known = {fact: True for fact in table[call]}
    return all([head in known for head in heads])


def _is_goal_table(rules, facts, goal, table):
    if table is None or goal_call(goal) not in table or not _has_given(table, facts):
        return False
    for pattern in patterns_of(rules):
        for call in list(table):
            if not _is_closed_along(pattern, call, table):
                return False
    return True


def is_goal_table(rules, facts, goal, thing):
    """Whether any object is a goal table for a goal."""
    refuse_nots(rules)
    return _is_goal_table(rules, facts, _checked_goal(goal), _as_table(thing))


def shows_not(rules, facts, fact, thing):
    """Whether any object is a goal table for a fact in which the list of its own call is empty."""
    refuse_nots(rules)
    kept = checked_fact(fact)
    table = _as_table(thing)
    return _is_goal_table(rules, facts, kept, table) and table[kept] == []


def _checked_call(call):
    kept = as_call(call)
    if kept is None:
        raise BadCall(call)
    return kept


def chain_to(rules, facts, goal, call):
    """A chain to a call with as few links as can be, None if the call does not come up."""
    refuse_nots(rules)
    atom = _checked_goal(goal)
    kept = _checked_call(call)
    search = Search(rules, facts, atom)
    return search.links_to(kept) if kept in search.came else None


def _call_behind(patterns, call, link, known):
    """The call to which any object leads as a link from a call, None if it is no such link."""
    if not isinstance(link, (list, tuple)) or len(link) != 2 or not is_number_of(link[0], patterns):
        return None
    pattern = patterns[link[0]]
    if not isinstance(link[1], (list, tuple)) or len(link[1]) >= len(pattern.atoms):
        return None
    calls = calls_from(pattern, call)
    for index, thing in enumerate(link[1]):
        fact = as_fact(thing)
        if calls is None or fact is None or fact not in known:
            return None
        atom = pattern.atoms[index]
        calls = step_on(pattern, index, fact, calls) if agrees(fact, call_of(atom, calls)) else None
    return None if calls is None else call_of(pattern.atoms[len(link[1])], calls)


def is_chain(rules, facts, goal, call, thing):
    """Whether any object is a chain to a call."""
    refuse_nots(rules)
    first = goal_call(_checked_goal(goal))
    kept = _checked_call(call)
    if not isinstance(thing, (list, tuple)):
        return False
    known = all_heights(rules, facts)
    patterns = patterns_of(rules)
    last = first
    for link in thing:
        last = _call_behind(patterns, last, link, known)
        if last is None or last == first:
            return False
    return last == kept


def goal_rules(rules, goal):
    """Rules, a seed and new relations, by which just what a goal asks for is made."""
    refuse_nots(rules)
    atom = _checked_goal(goal)
    asking = Asking(rules, atom)
    seed = Facts([asking.told_by(atom, [])])
    other = Rules(asking.all_rules())
    return (other, seed, asking.names())
