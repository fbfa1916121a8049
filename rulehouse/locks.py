"""Locks that dealings hold and wait for, turn by turn, and all states to which their turns can lead."""

from rulehouse.dealings import DONE
from rulehouse.errors import Ended, NoDealing
from rulehouse.names import is_integer
from rulehouse.plans import Locking


class Locks:
    """The dealings of a plan at work, turn by turn."""

    def __init__(self, plan):
        self._locking = Locking(plan)
        self._states = [self._locking.start]
        self._turns = []

    def _check(self, name):
        if name not in self._locking.dealings:
            raise NoDealing(name)

    def turn(self, dealing):
        """Takes a turn of a dealing, if it does not wait; returns whether it did."""
        self._check(dealing)
        if self._locking.is_ended(self._states[-1], dealing):
            raise Ended(dealing)
        later = self._locking.behind(self._states[-1], dealing)
        if later is None:
            return False
        self._states.append(later)
        self._turns.append(dealing)
        return True

    def state(self):
        """The tuple of how many works each dealing has done, by ascending names."""
        return self._states[-1]

    def held_by(self, dealing):
        """The dict, ascending, from what a dealing holds to "shared" or "full"."""
        self._check(dealing)
        return self._locking.held_at(self._states[-1], dealing)

    def waits_for(self, dealing):
        """The ascending list of the dealings for which one waits."""
        self._check(dealing)
        return self._locking.waited_for(self._states[-1], dealing)

    def done_so_far(self):
        """The history of the turns so far."""
        found = []
        for name, state, later in zip(self._turns, self._states, self._states[1:]):
            word, relation = self._locking.next_work(state, name)
            found.append((word, name, relation))
            if self._locking.is_ended(later, name):
                found.append((DONE, name))
        return found

    def undo(self):
        """Takes the last turn back; returns whether there was one."""
        if not self._turns:
            return False
        self._turns.pop()
        self._states.pop()
        return True


def _ways(locking):
    """The dict from all states that can be come to, the nearest first, to the least ways there; stops if one sticks."""
    found = {locking.start: ()}
    left = [locking.start]
    while left:
        later = []
        for state in left:
            for name in locking.dealings:
                other = locking.behind(state, name)
                if other is not None and other not in found:
                    found[other] = found[state] + (name,)
                    later.append(other)
                    if locking.sticks(other):
                        return found, other
        left = later
    return found, None


def way_to_stick(plan):
    """The least list of dealings behind whose turns some wait in a ring, None if there is none."""
    found, stuck = _ways(Locking(plan))
    return None if stuck is None else list(found[stuck])


def calm_states(plan):
    """The ascending list of all states that can be come to, None if some wait in a ring at one of them."""
    found, stuck = _ways(Locking(plan))
    return sorted(list(found)) if stuck is None else None


def _told_states(locking, thing):
    """The dict of the states that any object lists, None if it lists anything else."""
    if not isinstance(thing, (list, tuple)):
        return None
    found = {}
    for state in thing:
        if not isinstance(state, (list, tuple)) or len(state) != len(locking.dealings):
            return None
        for many, name in zip(state, locking.dealings):
            if not is_integer(many) or not 0 <= many <= len(locking.works[name]):
                return None
        found[tuple(state)] = True
    return found


def are_calm(plan, thing):
    """Whether any object is a list of states, closed under turns, at none of which some wait in a ring."""
    locking = Locking(plan)
    found = _told_states(locking, thing)
    if found is None or locking.start not in found:
        return False
    for state in found:
        if locking.sticks(state):
            return False
        for name in locking.dealings:
            later = locking.behind(state, name)
            if later is not None and later not in found:
                return False
    return True
