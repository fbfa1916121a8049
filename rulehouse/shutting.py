"""The search for closings: trees that show that no facts hold some, lack others, and keep promises."""

from rulehouse.finding import clashes, filled
from rulehouse.matching import is_call_of
from rulehouse.names import is_thing
from rulehouse.parts import as_fact
from rulehouse.partings import many_bits
from rulehouse.promises import clauses_of, is_number_in


def _all_calls(letters, things):
    rows = [{}]
    for letter in letters:
        rows = [{**row, letter: thing} for row in rows for thing in things]
    return rows


class Grounds:
    """Promises with some things put in for their letters, told in bits of their facts.

    A row is a tuple (held, ways out, number, match, ways): the bits that must be held for it to
    matter, the bits one of which must be held then, and the list of these, in order.
    """

    def __init__(self, clauses, numbers, things):
        self._bits = {}
        self._facts = []
        self._rows = []
        self._open = None
        for number in numbers:
            for match in _all_calls(clauses[number].letters, things):
                self._put_row(clauses[number], number, match)

    def _put_row(self, clause, number, match):
        calls = {**clause.seeds, **match}
        if clashes(clause.unlikes, calls):
            return
        held = self.bits_of([filled(atom, calls) for atom in clause.atoms])
        ways = [self._bit_of(filled(atom, calls)) for atom in clause.nots + clause.ways]
        out = 0
        for bit in ways:
            out = out | bit
        if held & out == 0:
            self._rows.append((held, out, number, match, ways))

    def _bit_of(self, fact):
        if fact not in self._bits:
            self._bits[fact] = 1 << len(self._facts)
            self._facts.append(fact)
        return self._bits[fact]

    def bits_of(self, facts):
        """The bits of facts, together."""
        found = 0
        for fact in facts:
            found = found | self._bit_of(fact)
        return found

    def closing(self, held, barred):
        """A closing from facts that are held and barred, None if there is none: see left_open."""
        known = {self._bit_of(fact): (("shut", fact), self._bit_of(fact)) for fact in barred}
        start = self.bits_of(held)
        for bit, told in known.items():
            if start & bit:
                return told[0]
        found = self._close(start, known)
        return None if found is None else found[0]

    def left_open(self):
        """The facts that keep all promises, as they were found by the last search without a closing."""
        return [fact for fact in self._facts if self._bits[fact] & self._open]

    def _next_row(self, held, known):
        """The row that leaves the fewest ways out, and their bits; None if all are kept."""
        closed = 0
        for bit in known:
            closed = closed | bit
        best = None
        fewest = 0
        left = 0
        for row in self._rows:
            if row[0] & held == row[0] and row[1] & held == 0:
                bits = row[1] & ~closed
                many = many_bits(bits) if bits else 0
                if best is None or many < fewest:
                    best, fewest, left = row, many, bits
                if many == 0:
                    break
        return best, left

    def _close(self, held, known):
        """The pair of a closing from held bits and of those that it needs, None if it stays open.

        known leads bits to such pairs: to closings from what is held and the bit.
        """
        chain = []
        row, left = self._next_row(held, known)
        while row is not None and left and left & (left - 1) == 0:
            chain.append((row, left))
            held = held | left
            row, left = self._next_row(held, known)
        if row is None:
            self._open = held
            return None
        found = self._split(row, left, held, known)
        if found is None:
            return None
        for row, bit in reversed(chain):
            # A closing that does not need what a split brings needs no split.
            if found[1] & bit:
                found = _split_by(row, {**known, bit: found})
        return found

    def _split(self, row, left, held, known):
        known = {**known}
        while left:
            bit = left & -left
            left = left - bit
            found = self._close(held | bit, known)
            if found is None or found[1] & bit == 0:
                return found
            known[bit] = found
        return _split_by(row, known)


def _split_by(row, known):
    """The pair of a split by a row, its trees being known, and of the held bits that it needs."""
    held, out, number, match, ways = row
    needed = held
    for bit in ways:
        needed = needed | (known[bit][1] & ~bit)
    trees = tuple([known[bit][0] for bit in ways])
    return (("split", number, {letter: thing for letter, thing in match.items()}, trees), needed)


class Search:
    """Searches for closings, over the things that are named and as many new ones as a case has."""

    def __init__(self, promises, numbers, things, first):
        self._clauses = clauses_of(promises)
        self._numbers = numbers
        self._things = things
        self._first = first
        self._grounds = {}

    def grounds(self, values):
        """The grounds over the things that are named and the new ones up to those among some values."""
        new = [thing for thing in values if thing not in self._things]
        many = max([thing - self._first + 1 for thing in new], default=0)
        if many not in self._grounds:
            things = self._things + [self._first + index for index in range(many)]
            self._grounds[many] = Grounds(self._clauses, self._numbers, things)
        return self._grounds[many]


def _split_told(clauses, number, match, held):
    """The facts one of which must be held by a promise at any object as a match, None if it is no such match."""
    clause = clauses[number]
    if not is_call_of(clause.letters, match, is_thing):
        return None
    calls = {**clause.seeds, **match}
    if clashes(clause.unlikes, calls) or not all([filled(atom, calls) in held for atom in clause.atoms]):
        return None
    return [filled(atom, calls) for atom in clause.nots + clause.ways]


def is_closing(promises, barred_number, held, barred, thing):
    """Whether any object is a closing from facts held and barred, no split being by the promise of a number."""
    clauses = clauses_of(promises)
    # A list of what is left to look through, as closings may be deeper than calls should be.
    left = [(thing, {fact: True for fact in held})]
    while left:
        told, here = left.pop()
        if not isinstance(told, (list, tuple)) or len(told) not in (2, 4):
            return False
        if len(told) == 2:
            fact = as_fact(told[1])
            if told[0] != "shut" or fact is None or fact not in here or fact not in barred:
                return False
            continue
        word, number, match, trees = told
        if word != "split" or not is_number_in(promises, number) or number == barred_number:
            return False
        facts = _split_told(clauses, number, match, here)
        if facts is None or not isinstance(trees, (list, tuple)) or len(trees) != len(facts):
            return False
        left.extend([(tree, {**here, fact: True}) for tree, fact in zip(trees, facts)])
    return True
