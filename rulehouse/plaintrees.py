"""Trees in which no fact stands below itself."""


class PlainTrees:
    """The plain trees of facts below facts that must not stand in them, told by bits."""

    def __init__(self, branches):
        self._branches = branches
        self._bits = {fact: 1 << index for index, fact in enumerate(branches.steps)}
        self._rows = [(self._bits[fact], self._bits_of(below)) for fact, steps in branches.steps.items()
                      for number, below in steps]
        self._reached = {}
        self._trees = {}

    def _bits_of(self, facts):
        bits = 0
        for fact in facts:
            bits = bits | self._bits[fact]
        return bits

    def _reached_without(self, above):
        """The bits of the facts that have trees without those with some bits."""
        if above not in self._reached:
            found = self._bits_of([fact for fact in self._bits if fact in self._branches.base]) & ~above
            rows = [row for row in self._rows if (row[0] | row[1]) & above == 0]
            last = None
            while found != last:
                last = found
                for head, below in rows:
                    if below & found == below:
                        found = found | head
            self._reached[above] = found
        return self._reached[above]

    def trees(self, fact, above):
        """The list of all plain trees of a fact without facts with some bits, in order."""
        key = (self._bits[fact], above)
        if key not in self._trees:
            found = [(fact, None, ())] if fact in self._branches.base else []
            above = above | self._bits[fact]
            for number, below in self._branches.steps[fact]:
                # Where one has no tree the others are not looked for, as they may have very many.
                if self._bits_of(below) & ~self._reached_without(above) == 0:
                    found.extend([(fact, number, trees) for trees in self._rows_of_trees(below, above)])
            self._trees[key] = found
        return self._trees[key]

    def _rows_of_trees(self, below, above):
        """All rows of plain trees of some facts, one of each, in order."""
        rows = [()]
        for fact in below:
            trees = self.trees(fact, above)
            rows = [row + (tree,) for row in rows for tree in trees]
        return rows
