"""What comes of facts by rules, round by round."""

from rulehouse.finding import Shelves, clashes, filled, is_barred
from rulehouse.striding import Stride


def _steps_of_nothing(patterns, barred):
    """The steps by rules without atoms in their bodies, if these hold."""
    return [(filled(pattern.head, pattern.seeds), number, ()) for number, pattern in enumerate(patterns)
            if not (pattern.atoms or clashes(pattern.unlikes, pattern.seeds)
                    or is_barred(pattern, pattern.seeds, barred))]


class Growth:
    """All that comes of facts by rules, round by round; in self.rounds the round of each fact.

    No match counts in which a fact behind a not is one of the barred ones.
    """

    def __init__(self, patterns, facts, barred):
        self.rounds = {fact: 0 for fact in facts}
        self._many = 0
        self._fresh = list(facts)
        self._barred = barred
        self._shelves = Shelves(facts)
        self._strides = [Stride(number, pattern, self._shelves) for number, pattern in enumerate(patterns)
                         if pattern.atoms]
        self._steps = _steps_of_nothing(patterns, barred)

    def add(self, facts):
        """Puts facts to those that are there."""
        for fact in facts:
            if fact not in self.rounds:
                self.rounds[fact] = self._many
                self._fresh.append(fact)
                self._shelves.put(fact)

    def is_over(self):
        """Whether the next round has nothing new to go on from."""
        return not (self._fresh or self._steps)

    def next_steps(self):
        """Goes one round on: the steps (head, number, facts) that were not there in the round ahead."""
        steps = self._steps
        if self._fresh:
            fresh = Shelves(self._fresh)
            for stride in self._strides:
                steps.extend(stride.taken(fresh, self._barred))
        self._steps = []
        self._fresh = []
        self._many += 1
        for step in steps:
            if step[0] not in self.rounds:
                self.rounds[step[0]] = self._many
                self._fresh.append(step[0])
                self._shelves.put(step[0])
        return steps


def grown(patterns, facts, barred):
    """The dict from all that comes of facts to the rounds in which it does, given facts in round 0."""
    growth = Growth(patterns, facts, barred)
    while not growth.is_over():
        growth.next_steps()
    return growth.rounds


def grown_steps(patterns, facts):
    """The pair of the dict from all that comes of facts to rounds, and the list of all steps, each once."""
    growth = Growth(patterns, facts, {})
    steps = []
    while not growth.is_over():
        steps.extend(growth.next_steps())
    return growth.rounds, steps
