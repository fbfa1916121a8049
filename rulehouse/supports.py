"""From which sets of given facts which facts follow, told of all these sets at once."""

from rulehouse.finding import patterns_of
from rulehouse.growing import grown_steps

# So many given facts are told by the bits of one number; those beyond them by a row of numbers.
MOST_BITS = 9


class Supports:
    """For each fact that follows the sets from which it does, told by a row of numbers.

    A set of given facts has a number, with the bit of each of them, in THE ORDER; the sets stand
    in the row by their numbers, as many in each of its numbers as it has bits.
    """

    def __init__(self, rules, facts):
        self.base = facts.listed()
        self._low = min(len(self.base), MOST_BITS)
        self._many = 1 << (len(self.base) - self._low)
        self._full = (1 << (1 << self._low)) - 1
        self._rows = {fact: self._row_of(index) for index, fact in enumerate(self.base)}
        self._steps = grown_steps(patterns_of(rules), self.base)[1]
        self._using = {}
        for index, step in enumerate(self._steps):
            for fact in step[2]:
                self._using.setdefault(fact, {})[index] = True
        self._fill()

    def _row_of(self, index):
        """The row of the sets that have the given fact with an index."""
        if index >= self._low:
            return [self._full if at >> (index - self._low) & 1 else 0 for at in range(self._many)]
        bits = 0
        for number in range(1 << self._low):
            if number >> index & 1:
                bits = bits | 1 << number
        return [bits] * self._many

    def _row_by(self, below):
        """The row of the sets from which all of some facts follow, as far as it is known."""
        row = [self._full] * self._many
        for fact in below:
            row = [one & other for one, other in zip(row, self._rows[fact])]
        return row

    def _fill(self):
        """Puts what comes by steps to the rows, till nothing is new.

        Steps stand behind those that make what they need, so all that they need has a row.
        """
        touched = list(range(len(self._steps)))
        while touched:
            again = {}
            for index in touched:
                head, number, below = self._steps[index]
                row = self._row_by(below)
                last = self._rows.get(head, [0] * self._many)
                more = [one | other for one, other in zip(last, row)]
                if more != last:
                    self._rows[head] = more
                    for user in self._using.get(head, {}):
                        again[user] = True
            touched = sorted(list(again))

    def _told_by(self, row):
        return [bits >> number & 1 == 1 for bits in row for number in range(1 << self._low)]

    def follows_from(self, fact):
        """The list, by the numbers of all sets, of whether a fact follows from them."""
        return self._told_by(self._rows.get(fact, [0] * self._many))

    def one_follows_from(self, rows):
        """The list, by the numbers of all sets, of whether all facts of one row, at least, follow from them."""
        found = [0] * self._many
        for facts in rows:
            found = [one | other for one, other in zip(found, self._row_by(facts))]
        return self._told_by(found)

    def all_facts(self):
        """The list of all facts that follow from some set."""
        return list(self._rows)

    def set_of(self, number):
        """The set with a number, a tuple."""
        return tuple([fact for index, fact in enumerate(self.base) if number >> index & 1])


def supports_of(rules, facts):
    """The Supports of rules and facts; the last one is kept with the rules, as calls often ask the same ones."""
    kept = rules.memory.get("supports")
    if kept is None or kept[0] != facts:
        kept = (facts, Supports(rules, facts))
        rules.memory["supports"] = kept
    return kept[1]


def choice_key(number):
    """What the numbers of sets are ordered by in THE ORDER OF CHOICES."""
    places = []
    index = 0
    while number >> index:
        if number >> index & 1:
            places.append(index)
        index += 1
    return (len(places), places)


def least_numbers(follows):
    """The numbers of the least sets of those for which a list tells True, in THE ORDER OF CHOICES."""
    found = [number for number, is_one in enumerate(follows) if is_one and not _has_lesser(follows, number)]
    return sorted(found, key=choice_key)


def _has_lesser(follows, number):
    left = number
    while left:
        bit = left & -left
        if follows[number - bit]:
            return True
        left = left - bit
    return False
