"""Turns of rules with nots, told in bits: the cases are found once, and each turn goes through them."""

from rulehouse.finding import patterns_of
from rulehouse.growing import grown_steps
from rulehouse.parts import atom_key


def _place_of(pattern, term):
    """The pair of the index of an atom of a body and a place in it where a letter stands, (None, term) for a thing."""
    for index, atom in enumerate(pattern.atoms):
        if term not in pattern.seeds and term in atom[1:]:
            return (index, atom.index(term, 1))
    return (None, term)


def places_of_nots(pattern):
    """For each atom behind a not its relation, and the places where its terms stand in the atoms of the body."""
    return [(atom[0], [_place_of(pattern, term) for term in atom[1:]]) for atom in pattern.nots]


def nots_at(places, facts):
    """The tuple of the facts behind the nots of a body, each once, if its atoms become facts; see places_of_nots."""
    found = {}
    for relation, row in places:
        things = [at if index is None else facts[index][at] for index, at in row]
        found[(relation,) + tuple(things)] = True
    return tuple(list(found))


def wide_cases(patterns, facts):
    """The pair of the dict from all facts of wide to rounds, and the list of all cases.

    A case is told here as (head, number, plain facts, not facts).
    """
    rounds, steps = grown_steps(patterns, facts)
    places = [places_of_nots(pattern) for pattern in patterns]
    return rounds, [(head, number, below, nots_at(places[number], below)) for head, number, below in steps]


class Turning:
    """All cases of rules and facts in bits, one for each fact of wide, in THE ORDER, and the turns.

    self.leads has the triples (head, plain facts, not facts) of the unlike cases that can tell
    anything: what is given needs no case, and holds no case up. Facts behind nots outside wide are
    left out, as no turn has them. self.steps leads them to the rule's number and all plain facts
    of the first case with them.
    """

    def __init__(self, rules, facts):
        rounds, found = wide_cases(patterns_of(rules), facts.listed())
        self.bits = {fact: 1 << index for index, fact in enumerate(sorted(list(rounds), key=atom_key))}
        self.held = self._sum_of(facts.listed())
        self.steps = {}
        for head, number, below, nots in found:
            row = (self.bits[head], self._sum_of(below) & ~self.held, self._sum_of(nots))
            if row[0] & self.held == 0 and row[0] & row[1] == 0:
                self.steps.setdefault(row, (number, below))
        self.leads = list(self.steps)
        self.turned = self._all_turns()
        sure, possible = self.turned[-2:]
        if len(self.turned) % 2 == 1:
            sure, possible = possible, sure
        self.sure = sure
        self.possible = possible

    def _sum_of(self, facts):
        found = 0
        for fact in facts:
            if fact in self.bits:
                found = found | self.bits[fact]
        return found

    def bits_of(self, facts):
        """The bits of facts, together, None if one is not of wide."""
        return self._sum_of(facts) if all([fact in self.bits for fact in facts]) else None

    def behind(self, seen):
        """The bits of what is behind the facts with some bits."""
        return closed(self.held, [row for row in self.leads if row[2] & seen == 0])

    def _all_turns(self):
        found = [0, (1 << len(self.bits)) - 1]
        coming = self.behind(found[1])
        while coming != found[-2]:
            found.append(coming)
            coming = self.behind(coming)
        return found

    def facts_of(self, bits):
        """The list of the facts with some bits, in THE ORDER."""
        return [fact for fact, bit in self.bits.items() if bits & bit]


def closed(start, rows):
    """The least bits that have those of a start, and the first of each row whose second they have."""
    found = start
    last = None
    while found != last:
        last = found
        for row in rows:
            if row[1] & found == row[1]:
                found = found | row[0]
    return found


def kept_turning(rules, facts):
    """The Turning of rules and facts if it is kept with the rules, None if not."""
    kept = rules.memory.get("turning")
    return None if kept is None or kept[0] != facts else kept[1]


def turning_of(rules, facts):
    """The Turning of rules and facts; the last one is kept with the rules, as calls often ask the same ones."""
    found = kept_turning(rules, facts)
    if found is None:
        found = Turning(rules, facts)
        rules.memory["turning"] = (facts, found)
    return found
