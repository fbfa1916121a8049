"""Arguments of claims, looked through claim by claim."""

from rulehouse.finding import clashes, filled, patterns_of
from rulehouse.matching import is_call_of
from rulehouse.names import is_thing
from rulehouse.parts import as_fact
from rulehouse.rules import is_number_of
from rulehouse.turning import wide_cases


def _cases_by_head(rules, facts):
    """The pair of the facts of wide and of the dict from heads to the pairs (plain facts, not facts) of their cases.

    The last pair is kept with the rules, as calls often ask the same ones.
    """
    kept = rules.memory.get("heads")
    if kept is None or kept[0] != facts:
        wide, found = wide_cases(patterns_of(rules), facts.listed())
        by_head = {}
        for head, number, below, nots in found:
            by_head.setdefault(head, []).append((below, nots))
        kept = (facts, wide, by_head)
        rules.memory["heads"] = kept
    return kept[1:]


class Hearing:
    """What the claims of an argument tell, as far as they are looked through."""

    def __init__(self, rules, facts):
        self._given = {fact: True for fact in facts.listed()}
        self._patterns = patterns_of(rules)
        self._wide, self._by_head = _cases_by_head(rules, facts)
        self._sure = {fact: True for fact in self._given}
        self._never = {}

    def is_never(self, fact):
        """Whether a fact is told never."""
        return fact not in self._wide or fact in self._never

    def told(self, fact):
        """What is told of a fact, None if nothing is."""
        if fact in self._sure:
            return "sure"
        return "never" if self.is_never(fact) else None

    def hear(self, claim):
        """Whether any object is a claim that is right behind those that were heard; if so, it is heard."""
        if not isinstance(claim, (list, tuple)) or len(claim) not in (2, 3):
            return False
        if len(claim) == 3:
            return claim[0] == "sure" and self._hear_sure(claim[1], claim[2])
        return claim[0] == "never" and self._hear_never(claim[1])

    def _hear_sure(self, number, match):
        if not is_number_of(number, self._patterns):
            return False
        pattern = self._patterns[number]
        if not is_call_of(pattern.letters, match, is_thing):
            return False
        calls = {**pattern.seeds, **match}
        if clashes(pattern.unlikes, calls):
            return False
        if not all([filled(atom, calls) in self._sure for atom in pattern.atoms]):
            return False
        if not all([self.is_never(filled(atom, calls)) for atom in pattern.nots]):
            return False
        self._sure[filled(pattern.head, calls)] = True
        return True

    def _hear_never(self, some):
        if not isinstance(some, (list, tuple)) or len(some) == 0:
            return False
        among = {}
        for thing in some:
            fact = as_fact(thing)
            if fact is None or fact in among or fact not in self._wide or fact in self._given:
                return False
            among[fact] = True
        for fact in among:
            for below, nots in self._by_head[fact]:
                if not self._is_stopped(below, nots, among):
                    return False
        for fact in among:
            self._never[fact] = True
        return True

    def _is_stopped(self, below, nots, among):
        """Whether a case can't make its head sure, if what is among some can't be sure."""
        if any([fact in among or fact in self._never for fact in below]):
            return True
        return any([fact in self._sure for fact in nots])
