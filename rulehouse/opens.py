"""What is open, told in bits, with what the cases say there: halves are narrowed by it."""

from rulehouse.facts import facts_in_order
from rulehouse.turning import closed, turning_of


class Opens:
    """The open facts, and the cases that hang on them alone.

    Sure facts are in both halves however these are narrowed, and what is not possible in none: so
    sets of facts between the two are told by the bits of their open facts.
    """

    def __init__(self, turning):
        self._turning = turning
        self._sure = turning.sure
        self._possible = turning.possible
        self._open = turning.possible & ~turning.sure
        self._by_bit = {turning.bits[fact]: fact for fact in turning.facts_of(self._open)}
        rows = {}
        for head, below, nots in turning.leads:
            if head & self._open and below & ~self._possible == 0 and nots & self._sure == 0:
                rows[(head, below & self._open, nots & self._open)] = True
        self._rows = list(rows)
        self._behind = {}

    def is_wide(self, fact):
        """Whether a fact is one of wide."""
        return fact in self._turning.bits

    def all_bits(self):
        """The bits of all open facts."""
        return self._open

    def first_of(self, bits):
        """The pair of the first open fact with one of some bits, and its bit."""
        return self._by_bit[bits & -bits], bits & -bits

    def bits_held(self, facts):
        """The bits of the open ones of facts, None if one is not possible: then no world has them."""
        found = 0
        for fact in facts:
            bit = self._turning.bits.get(fact, 0)
            if bit & self._possible == 0:
                return None
            found = found | bit
        return found & self._open

    def bits_lacked(self, facts):
        """The bits of the open ones of facts, None if one is sure: then no world lacks them."""
        found = 0
        for fact in facts:
            found = found | self._turning.bits.get(fact, 0)
        return None if found & self._sure else found & self._open

    def world(self, bits):
        """The Facts of all that is sure, and of the open facts with some bits."""
        return facts_in_order(self._turning.facts_of(self._sure | bits))

    def behind(self, seen):
        """The bits of the set behind the one with some bits."""
        if seen not in self._behind:
            self._behind[seen] = closed(0, [row for row in self._rows if row[2] & seen == 0])
        return self._behind[seen]

    def narrowed(self, low, high):
        """The bits of the halves to which two sets are narrowed."""
        while True:
            lower = low | self.behind(high)
            upper = high & self.behind(lower)
            if (lower, upper) == (low, high):
                return low, high
            low, high = lower, upper


def opens_of(rules, facts):
    """The Opens of rules and facts; the last one is kept with the rules, as calls often ask the same ones."""
    turning = turning_of(rules, facts)
    kept = rules.memory.get("opens")
    if kept is None or kept[0] != facts:
        kept = (facts, Opens(turning))
        rules.memory["opens"] = kept
    return kept[1]
