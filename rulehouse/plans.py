"""Plans of works, looked through, and what dealings hold and wait for at each state of a plan."""

from rulehouse.circles import least_circle
from rulehouse.dealings import WRITE, as_work
from rulehouse.errors import BadPlan
from rulehouse.names import is_name


def _as_works(thing):
    """The tuple of the works that any object lists, None if it lists none or anything else."""
    if not isinstance(thing, (list, tuple)) or len(thing) == 0:
        return None
    works = tuple([as_work(work) for work in thing])
    return None if None in works else works


def checked_plan(plan):
    """The dict from the dealings of a plan, ascending, to the tuples of their works: BadPlan."""
    if not isinstance(plan, dict) or len(plan) == 0:
        raise BadPlan(plan)
    found = {}
    for key, thing in plan.items():
        works = _as_works(thing) if is_name(key) else None
        if works is None:
            raise BadPlan(key)
        found[key] = works
    return {name: found[name] for name in sorted(list(found))}


def _holdings(works):
    """The list of the dicts, ascending, from what a dealing holds to "shared" or "full", by how many works are done."""
    found = [{}]
    for word, relation in works[:-1]:
        last = found[-1]
        how = "full" if word == WRITE or last.get(relation) == "full" else "shared"
        relations = sorted(list({**last, relation: True}))
        found.append({other: how if other == relation else last[other] for other in relations})
    return found + [{}]


class Locking:
    """A plan at all its states: tuples of how many works each dealing has done, by ascending names."""

    def __init__(self, plan):
        self.works = checked_plan(plan)
        self.dealings = list(self.works)
        self.start = tuple([0 for _ in self.dealings])
        self._places = {name: index for index, name in enumerate(self.dealings)}
        self._holdings = {name: _holdings(self.works[name]) for name in self.dealings}

    def is_ended(self, state, name):
        """Whether a dealing is done."""
        return state[self._places[name]] == len(self.works[name])

    def next_work(self, state, name):
        """The next work of a dealing that is not done."""
        return self.works[name][state[self._places[name]]]

    def held_at(self, state, name):
        """The dict, ascending, from the relations that a dealing holds to "shared" or "full"."""
        return {**self._holdings[name][state[self._places[name]]]}

    def waited_for(self, state, name):
        """The ascending list of the dealings for which one waits."""
        if self.is_ended(state, name):
            return []
        word, relation = self.next_work(state, name)
        found = []
        for index, other in enumerate(self.dealings):
            how = self._holdings[other][state[index]].get(relation) if other != name else None
            if how == "full" or (how == "shared" and word == WRITE):
                found.append(other)
        return found

    def behind(self, state, name):
        """The state behind a turn of a dealing, None if it can't take one."""
        if self.is_ended(state, name) or self.waited_for(state, name):
            return None
        at = self._places[name]
        return state[:at] + (state[at] + 1,) + state[at + 1:]

    def sticks(self, state):
        """Whether some dealings wait in a ring."""
        waiting = {name: self.waited_for(state, name) for name in self.dealings}
        return any(list(waiting.values())) and least_circle(waiting) is not None
