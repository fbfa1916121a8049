"""What stands by rules, kept up while facts come and go, and the paper that shows it."""

from rulehouse.errors import BadFact, BadTake, BothWays, NoVersion
from rulehouse.facts import Facts
from rulehouse.finding import Shelves, filled, found_calls, is_barred, patterns_of
from rulehouse.growing import grown
from rulehouse.levels import by_levels, refuse_rings_through_nots
from rulehouse.names import is_integer
from rulehouse.parts import as_fact
from rulehouse.rules import is_number_of


def change_between(old, new):
    """The change (come, gone) from some facts to others."""
    return ((new - old).listed(), (old - new).listed())


def numbers_of(rules, given, standing):
    """The dict from all that stands, in THE ORDER, to numbers."""
    barred = {fact: True for fact in standing.listed()}
    rounds = grown(patterns_of(rules), given.listed(), barred)
    return {fact: rounds[fact] for fact in standing.listed()}


def _first_odd(facts):
    """The index of the first thing in any object that is no fact, 0 if it is no list; None if all are."""
    if not isinstance(facts, (list, tuple)):
        return 0
    for index, thing in enumerate(facts):
        if as_fact(thing) is None:
            return index
    return None


def _checked_change(put, take):
    """The pair of the Facts to be put and of those to be taken: BadFact, then BadTake, then BothWays."""
    odd = _first_odd(put)
    if odd is not None:
        raise BadFact(odd)
    odd = _first_odd(take)
    if odd is not None:
        raise BadTake(odd)
    taken = Facts(take)
    for fact in put:
        if fact in taken:
            raise BothWays(tuple(fact))
    return Facts(put), taken


class Kept:
    """What stands by rules and given facts, behind each change of these."""

    def __init__(self, rules, facts):
        self._rules = rules
        self._standing = by_levels(rules, facts)
        self._versions = [facts]

    def given(self):
        """The Facts that are given."""
        return self._versions[-1]

    def standing(self):
        """The Facts that stand."""
        return self._standing

    def numbers(self):
        """The dict from all that stands, in THE ORDER, to numbers: by how many steps each comes at the least."""
        return numbers_of(self._rules, self._versions[-1], self._standing)

    def change(self, put, take):
        """Gives some facts and gives others no more; returns the change (come, gone) of what stands."""
        coming, taken = _checked_change(put, take)
        return self._go_to((self._versions[-1] - taken) | coming)

    def _go_to(self, given):
        last = self._standing
        self._standing = by_levels(self._rules, given)
        self._versions.append(given)
        return change_between(last, self._standing)

    def version(self):
        """The number of the last version."""
        return len(self._versions) - 1

    def given_at(self, version):
        """The Facts that were given at a version."""
        if not is_number_of(version, self._versions):
            raise NoVersion(version)
        return self._versions[version]

    def back(self, version):
        """A change behind which just those facts are given that were at a version."""
        return self._go_to(self.given_at(version))


def _numbers_told(facts, thing):
    """The dict from facts to integers from 0 on that any object is, all given facts among its keys; else None."""
    if not isinstance(thing, dict):
        return None
    for key, number in thing.items():
        if as_fact(key) is None or not is_integer(number) or number < 0:
            return None
    if not all([fact in thing for fact in facts.listed()]):
        return None
    return {fact: thing[fact] for fact in thing}


def is_kept(rules, facts, thing):
    """Whether any object is a dict from what stands to numbers that show that it stands."""
    refuse_rings_through_nots(rules)
    told = _numbers_told(facts, thing)
    if told is None:
        return False
    shelves = Shelves(list(told))
    held_up = {}
    for pattern in patterns_of(rules):
        for calls in found_calls(shelves, pattern.atoms, pattern.unlikes, pattern.seeds):
            head = filled(pattern.head, calls)
            if is_barred(pattern, calls, told):
                continue
            if head not in told:
                return False
            if all([told[filled(atom, calls)] < told[head] for atom in pattern.atoms]):
                held_up[head] = True
    return all([fact in facts or (told[fact] > 0 and fact in held_up) for fact in told])
