"""The cheapest trees of all facts at once, the cheapest fact first."""

from heapq import heappop, heappush


def _together(rows):
    """The sums of rows of integers, place by place."""
    found = list(rows[0])
    for row in rows[1:]:
        found = [one + other for one, other in zip(found, row)]
    return tuple(found)


class Cheapness:
    """The least sums of trees, and of these the least heights, and how each fact comes by them.

    What is summed are rows of integers from 0 on, compared place by place: one for each given fact
    without a rule, one for each use of a rule (by its number), and one more for each of its uses
    without atoms. self.best leads each fact that has a tree to (row, height, step), step being
    None for a given fact without a rule; a fact stands behind those that its step needs.
    """

    def __init__(self, given, steps, fees, bare):
        self.best = {}
        self._fees = fees
        self._bare = bare
        self._queue = []
        self._offers = []
        self._steps = steps
        self._using = {}
        self._lacking = []
        for fact, row in given.items():
            self._offer(fact, row, 0, None)
        for index, step in enumerate(steps):
            below = {fact: True for fact in step[2]}
            self._lacking.append(len(below))
            for fact in below:
                self._using.setdefault(fact, []).append(index)
            if not below:
                self._offer(step[0], _together([fees[step[1]], bare]), 1, step)
        self._settle()

    def _offer(self, fact, row, height, step):
        if fact not in self.best:
            heappush(self._queue, (row, height, len(self._offers)))
            self._offers.append((fact, step))

    def _settle(self):
        """Takes the least offer, again and again: nothing that comes later can be less."""
        while self._queue:
            row, height, index = heappop(self._queue)
            fact, step = self._offers[index]
            if fact not in self.best:
                self.best[fact] = (row, height, step)
                self._offer_by(fact)

    def _offer_by(self, fact):
        """Offers what comes by the steps that lacked just this fact."""
        for index in self._using.get(fact, []):
            self._lacking[index] -= 1
            if self._lacking[index] == 0:
                step = self._steps[index]
                row = _together([self._fees[step[1]]] + [self.best[other][0] for other in step[2]])
                height = 1 + max([self.best[other][1] for other in step[2]])
                self._offer(step[0], row, height, step)

    def tree(self, fact):
        """The tree by which a fact comes."""
        needed = {fact: True}
        for other in reversed(list(self.best)):
            step = self.best[other][2]
            if other in needed and step is not None:
                for below in step[2]:
                    needed[below] = True
        trees = {}
        for other in self.best:
            if other in needed:
                step = self.best[other][2]
                if step is None:
                    trees[other] = (other, None, ())
                else:
                    trees[other] = (other, step[1], tuple([trees[below] for below in step[2]]))
        return trees[fact]
