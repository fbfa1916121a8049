"""What is open, told in bits, with what the cases say there: halves are narrowed by it."""

from rulehouse.cases import wide_cases
from rulehouse.facts import Facts
from rulehouse.finding import patterns_of
from rulehouse.threes import sure_and_possible


class Opens:
    """The open facts, each with a bit, in THE ORDER, and the cases that hang on them alone.

    Sure facts are in both halves however these are narrowed, and what is not possible in none: so
    sets of facts between the two are told by the bits of their open facts.
    """

    def __init__(self, rules, facts):
        self._sure, self._possible = sure_and_possible(rules, facts)
        self.facts = (self._possible - self._sure).listed()
        self._bits = {fact: 1 << index for index, fact in enumerate(self.facts)}
        self._wide, found = wide_cases(patterns_of(rules), facts.listed())
        rows = {}
        for head, below, nots in found:
            if head in self._bits:
                row = (self._bits[head], self._bits_of(below, self._sure), self._bits_of_nots(nots))
                if None not in row:
                    rows[row] = True
        self._rows = list(rows)
        self._behind = {}

    def _bits_of(self, facts, passed):
        """The bits of facts, those of a set being passed over; None if others are not open."""
        bits = 0
        for fact in facts:
            if fact in self._bits:
                bits = bits | self._bits[fact]
            elif fact not in passed:
                return None
        return bits

    def _bits_of_nots(self, nots):
        """The bits of facts behind nots, None if one is sure."""
        if any([fact in self._sure for fact in nots]):
            return None
        return self._bits_of([fact for fact in nots if fact in self._bits], ())

    def is_wide(self, fact):
        """Whether a fact is one of wide."""
        return fact in self._wide

    def all_bits(self):
        """The bits of all open facts."""
        return (1 << len(self.facts)) - 1

    def fact_of(self, bit):
        """The open fact with a bit."""
        return [fact for fact in self.facts if self._bits[fact] == bit][0]

    def bits_held(self, facts):
        """The bits of the open ones of facts, None if one is not possible: then no world has them."""
        return self._bits_of(facts, self._sure)

    def bits_lacked(self, facts):
        """The bits of the open ones of facts, None if one is sure: then no world lacks them."""
        return self._bits_of_nots(facts)

    def world(self, bits):
        """The Facts of all that is sure, and of the open facts with some bits."""
        return self._sure | Facts([fact for fact in self.facts if self._bits[fact] & bits])

    def behind(self, seen):
        """The bits of the set behind the one with some bits."""
        if seen not in self._behind:
            rows = [(head, below) for head, below, nots in self._rows if nots & seen == 0]
            self._behind[seen] = _closed(rows)
        return self._behind[seen]

    def narrowed(self, low, high):
        """The bits of the halves to which two sets are narrowed."""
        while True:
            lower = low | self.behind(high)
            upper = high & self.behind(lower)
            if (lower, upper) == (low, high):
                return low, high
            low, high = lower, upper


def _closed(rows):
    """The least bits that have each head whose other bits they have."""
    found = 0
    last = None
    while found != last:
        last = found
        for head, below in rows:
            if below & found == below:
                found = found | head
    return found
