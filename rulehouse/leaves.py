"""Trees with just some leaves, and how these are split among the trees of their steps."""

from rulehouse.branches import ranked


def _together(one, other, most):
    """The sum of two rows of numbers, place by place, None if it is above a third one somewhere."""
    found = tuple([first + second for first, second in zip(one, other)])
    return None if any([many > limit for many, limit in zip(found, most)]) else found


class Splits:
    """Which leaves, of some, make whole trees of which facts.

    Leaves are told by a row of how often each of some given facts stands.
    """

    def __init__(self, branches, leaves):
        self._branches = branches
        self._most = tuple(list(leaves.values()))
        self._none = tuple([0] * len(leaves))
        self._shares = {fact: {} for fact in branches.steps}
        self._alone = {}
        for index, fact in enumerate(leaves):
            if fact in self._shares:
                self._alone[fact] = self._none[:index] + (1,) + self._none[index + 1:]
                self._shares[fact][self._alone[fact]] = True
        while self._grow():
            pass

    def _grow(self):
        """Puts the leaves of trees by steps to the shares of their facts; whether anything is new."""
        is_new = False
        for fact, steps in self._branches.steps.items():
            for number, below in steps:
                rows = {self._none: True}
                for other in below:
                    sums = [_together(row, share, self._most) for row in rows for share in self._shares[other]]
                    rows = {row: True for row in sums if row is not None}
                for row in rows:
                    if row not in self._shares[fact]:
                        self._shares[fact][row] = True
                        is_new = True
        return is_new

    def _ways(self, fact, leaves):
        """The lists of pairs (fact, leaves), one for each way to split leaves among the facts of a step."""
        found = []
        for number, below in self._branches.steps[fact]:
            rows = [([], self._none)]
            for other in below:
                longer = []
                for pairs, used in rows:
                    for share in self._shares[other]:
                        more = _together(used, share, leaves)
                        if more is not None:
                            longer.append((pairs + [(other, share)], more))
                rows = longer
            found.extend([pairs for pairs, used in rows if used == leaves])
        return found

    def many_trees(self, fact):
        """The number of the trees of a fact with all leaves, None if these go on for ever."""
        if self._most not in self._shares.get(fact, {}):
            return 0
        ways = {}
        left = [(fact, self._most)]
        while left:
            told = left.pop()
            if told not in ways:
                ways[told] = self._ways(told[0], told[1])
                left.extend([pair for pairs in ways[told] for pair in pairs])
        order = ranked({told: [pair for pairs in rows for pair in pairs] for told, rows in ways.items()})
        if order is None:
            return None
        counts = {}
        for told in order:
            counts[told] = 1 if self._alone.get(told[0]) == told[1] else 0
            for pairs in ways[told]:
                counts[told] += _product([counts[pair] for pair in pairs])
        return counts[(fact, self._most)]


def _product(numbers):
    found = 1
    for number in numbers:
        found = found * number
    return found
