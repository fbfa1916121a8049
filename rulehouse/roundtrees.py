"""The search for least trees in which some fact stands below itself, height by height."""


def least_trees(branches):
    """The dict from all facts below one to trees of their least heights."""
    heights = branches.heights
    trees = {}
    for fact in sorted(list(branches.steps), key=lambda fact: heights[fact]):
        if fact in branches.base:
            trees[fact] = (fact, None, ())
            continue
        low = [step for step in branches.steps[fact] if all([heights[other] < heights[fact] for other in step[1]])]
        number, below = low[0]
        trees[fact] = (fact, number, tuple([trees[other] for other in below]))
    return trees


class Rounds:
    """Which facts stand in trees up to some height, and which of these trees have a fact below itself."""

    def __init__(self, branches):
        self._branches = branches
        self._trees = least_trees(branches)
        self._bits = {fact: 1 << index for index, fact in enumerate(branches.steps)}
        self._inside = [{fact: bit if branches.heights[fact] == 0 else 0 for fact, bit in self._bits.items()}]
        self._is_round = [{}]

    def _steps_at(self, fact, height):
        """The steps of a fact by trees of less than a height."""
        heights = self._branches.heights
        return [step for step in self._branches.steps[fact] if all([heights[other] < height for other in step[1]])]

    def grow(self):
        """Goes one height on."""
        height = len(self._inside)
        inside = {}
        is_round = dict(self._is_round[-1])
        for fact, bit in self._bits.items():
            inside[fact] = self._inside[-1][fact] | (bit if self._branches.heights[fact] <= height else 0)
            for number, below in self._steps_at(fact, height):
                for other in below:
                    inside[fact] = inside[fact] | self._inside[-1][other]
                    if other in self._is_round[-1] or self._inside[-1][other] & bit:
                        is_round[fact] = True
        self._inside.append(inside)
        self._is_round.append(is_round)

    def has(self, fact):
        """Whether some tree of a fact up to the height that was reached has a fact below itself."""
        return fact in self._is_round[-1]

    def tree(self, fact):
        """Such a tree of a fact."""
        return self._round_tree(fact, len(self._inside) - 1)

    def _with_branch(self, fact, step, index, tree):
        """The tree by a step with a tree at one place, and with least ones at all others."""
        trees = [self._trees[other] for other in step[1]]
        trees[index] = tree
        return (fact, step[0], tuple(trees))

    def _round_tree(self, fact, height):
        for step in self._steps_at(fact, height):
            for index, other in enumerate(step[1]):
                if self._inside[height - 1][other] & self._bits[fact]:
                    return self._with_branch(fact, step, index, self._tree_with(other, fact, height - 1))
                if other in self._is_round[height - 1]:
                    return self._with_branch(fact, step, index, self._round_tree(other, height - 1))
        return None

    def _tree_with(self, fact, wanted, height):
        """A tree of a fact up to a height in which another one stands, or which is of this one."""
        if fact == wanted:
            return self._trees[fact]
        for step in self._steps_at(fact, height):
            for index, other in enumerate(step[1]):
                if self._inside[height - 1][other] & self._bits[wanted]:
                    return self._with_branch(fact, step, index, self._tree_with(other, wanted, height - 1))
        return None
