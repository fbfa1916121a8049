"""The search for least pairs that hold for rules and not for other ones, in bits."""

from rulehouse.facts import Facts
from rulehouse.finding import clashes, filled, patterns_of
from rulehouse.freezing import calls_up_to_names, first_new, parts_of_rules, things_named
from rulehouse.growing import Growth
from rulehouse.turning import nots_at, places_of_nots


def _instances(rules, more):
    """The triples (head, plain facts, not facts) of rules with things put in, such as a pair may not hold for.

    Those with fewer plain facts stand ahead, as there has all of these at least.
    """
    things = things_named(parts_of_rules(rules.listed() + more.listed()))
    first = first_new(things)
    found = {}
    for pattern in patterns_of(more):
        for letters_calls in calls_up_to_names(pattern.letters, things, first):
            calls = {**pattern.seeds, **letters_calls}
            plain = {filled(atom, calls): True for atom in pattern.atoms}
            nots = {filled(atom, calls): True for atom in pattern.nots}
            head = filled(pattern.head, calls)
            if head in plain or clashes(pattern.unlikes, calls) or any([fact in plain for fact in nots]):
                continue
            found[(head, tuple(list(plain)), tuple(list(nots)))] = True
    return sorted(list(found), key=lambda told: len(told[1]))


def _cases_from(patterns, plain):
    """All facts and cases that can come of facts, and of what stands behind the nots of these cases."""
    growth = Growth(patterns, list(plain), {})
    places = [places_of_nots(pattern) for pattern in patterns]
    found = []
    while not growth.is_over():
        behind_nots = {}
        for head, number, below in growth.next_steps():
            nots = nots_at(places[number], below)
            found.append((head, below, nots))
            for fact in nots:
                behind_nots[fact] = True
        growth.add(list(behind_nots))
    return list(growth.rounds), found


def many_bits(bits):
    """How many bits are set."""
    return f"{bits:b}".count("1")


def _closed(start, rows):
    """The least bits that have those of a start, and each head whose other bits they have."""
    found = start
    last = None
    while found != last:
        last = found
        for head, below, nots in rows:
            if below & found == below:
                found = found | head
    return found


class Ground:
    """One rule with things put in, and all cases that matter for it."""

    def __init__(self, patterns, head, plain, nots):
        self._facts, found = _cases_from(patterns, plain)
        bits = {fact: 1 << index for index, fact in enumerate(self._facts)}
        rows = {(bits[told], _sum_of(bits, below), _sum_of(bits, barred)): True for told, below, barred in found}
        # What has its head in its body, or its body behind its nots, leads to nothing.
        self.leads = [row for row in list(rows) if row[0] & row[1] == 0 and row[1] & row[2] == 0]
        self.plain = _sum_of(bits, plain)
        self.head = bits.get(head, 0)
        self.barred = _sum_of(bits, [fact for fact in nots if fact in bits])

    def facts_of(self, bits):
        """The Facts with some bits."""
        return Facts([fact for index, fact in enumerate(self._facts) if bits >> index & 1])


def _sum_of(bits, facts):
    """The bits of facts, together."""
    found = 0
    for fact in facts:
        found = found | bits[fact]
    return found


class Parting:
    """The least pair that was found, so far, that holds for rules and not for others."""

    def __init__(self):
        self.sizes = None
        self.pair = None

    def look_at(self, ground, taken, out):
        """Looks for lesser pairs whose there has what is taken, and lacks what is out."""
        decided = [row for row in ground.leads if row[2] & out == row[2]]
        there = _closed(taken, decided)
        if there & (out | ground.barred) or _closed(ground.plain, decided) & ground.head:
            return
        if self.sizes is not None and many_bits(there) > self.sizes[0]:
            return
        left = _undecided(ground.leads, there, out)
        if left == 0:
            self.take(ground, there)
            return
        bit = left & -left
        self.look_at(ground, taken, out | bit)
        self.look_at(ground, taken | bit, out)

    def take(self, ground, there):
        """Takes the least pair with this there, if it is less than the one found so far."""
        rows = [row for row in ground.leads if row[2] & there == 0]
        start = ground.plain if there & ground.head else 0
        here = _closed(start, rows)
        sizes = (many_bits(there), many_bits(here))
        if self.sizes is None or sizes < self.sizes:
            self.sizes = sizes
            self.pair = (ground.facts_of(here), ground.facts_of(there))


def _undecided(rows, there, out):
    """The bits behind nots that matter: of rows whose other bits are there, none behind their nots."""
    left = 0
    for head, below, nots in rows:
        if below & there == below and nots & there == 0:
            left = left | nots
    return left & ~out


def least_parting(rules, more, any_one):
    """The least pair (here, there) that holds for rules and not for more, None if there is none.

    If any one will do, the first one that is found.
    """
    patterns = patterns_of(rules)
    parting = Parting()
    for head, plain, nots in _instances(rules, more):
        if parting.sizes is None or (not any_one and len(plain) <= parting.sizes[0]):
            ground = Ground(patterns, head, plain, nots)
            parting.look_at(ground, ground.plain, 0)
    return parting.pair
