"""How matches are found: facts kept by the things at their places, and bodies put to them."""

from rulehouse.names import is_letter, term_key
from rulehouse.parts import is_plain, letters_in, terms_of


class Shelves:
    """Facts that can grow, found by the things that stand at some of their places."""

    def __init__(self, facts):
        self.known = {}
        self._drawers = {}
        for fact in facts:
            self.put(fact)

    def put(self, fact):
        """Puts a fact to those that are kept."""
        if fact in self.known:
            return
        self.known[fact] = True
        kind = (fact[0], len(fact))
        if kind not in self._drawers:
            self._drawers[kind] = {(): {(): [fact]}}
            return
        drawers = self._drawers[kind]
        for places in list(drawers):
            _put_in_drawer(drawers[places], places, fact)

    def drawer(self, kind, places):
        """The dict from the things at some places to the facts of a kind (relation, length) that have them there.

        It goes along with what is put to the shelves later on.
        """
        drawers = self._drawers.setdefault(kind, {(): {}})
        if places not in drawers:
            drawers[places] = _new_drawer(drawers[()].get((), []), places)
        return drawers[places]

    def rows(self, atom, calls):
        """The facts that have the atom's relation, and what calls tells of its terms."""
        places = tuple([place for place in range(1, len(atom)) if atom[place] in calls])
        drawer = self.drawer((atom[0], len(atom)), places)
        return drawer.get(tuple([calls[atom[place]] for place in places]), [])


def _put_in_drawer(drawer, places, fact):
    drawer.setdefault(tuple([fact[place] for place in places]), []).append(fact)


def _new_drawer(facts, places):
    drawer = {}
    for fact in facts:
        _put_in_drawer(drawer, places, fact)
    return drawer


class Pattern:
    """A body, perhaps with a head, taken apart for the search.

    Calls, where they are searched with, are dicts that lead letters to what they stand for, and
    each thing that the pattern names to itself: so a term is bound just if it is a key.
    """

    def __init__(self, body, head=None):
        self.head = head
        self.atoms = tuple([part for part in body if is_plain(part)])
        self.nots = tuple([part[1] for part in body if part[0] == "not"])
        self.unlikes = tuple([part[1:] for part in body if part[0] == "unlike"])
        self.letters = tuple(letters_in(body))
        self.seeds = {}
        for part in list(body) + ([] if head is None else [head]):
            for term in terms_of(part):
                if not is_letter(term):
                    self.seeds[term] = term


def patterns_of(rules):
    """The tuple of the patterns of rules, made once and kept with them."""
    if "patterns" not in rules.memory:
        rules.memory["patterns"] = tuple([Pattern(body, head) for head, body in rules.listed()])
    return rules.memory["patterns"]


def filled(atom, calls):
    """The fact that an atom becomes by calls that bind all its terms."""
    return (atom[0],) + tuple([calls[term] for term in atom[1:]])


def extended(atom, fact, calls):
    """The calls and what is told by an atom becoming a fact, None if it can't."""
    more = dict(calls)
    for term, thing in zip(atom[1:], fact[1:]):
        if more.setdefault(term, thing) != thing:
            return None
    return more


def calls_by(pattern, facts):
    """The calls by which the atoms of a body become facts, told in their order."""
    calls = {**pattern.seeds}
    for atom, fact in zip(pattern.atoms, facts):
        for term, thing in zip(atom[1:], fact[1:]):
            calls[term] = thing
    return calls


def clashes(unlikes, calls):
    """Whether two terms that are told unlike are bound to the same."""
    for one, other in unlikes:
        if one in calls and other in calls and calls[one] == calls[other]:
            return True
    return False


def _tightest(shelves, atoms, calls):
    """The index and the facts of the atom that leaves the fewest facts to try."""
    best = 0
    fewest = None
    for index, atom in enumerate(atoms):
        rows = shelves.rows(atom, calls)
        if fewest is None or len(rows) < len(fewest):
            best = index
            fewest = rows
        if len(fewest) == 0:
            break
    return best, fewest


def _search(shelves, atoms, unlikes, calls, found):
    if len(atoms) == 0:
        found.append(calls)
        return
    index, rows = _tightest(shelves, atoms, calls)
    rest = atoms[:index] + atoms[index + 1:]
    for fact in rows:
        more = extended(atoms[index], fact, calls)
        if more is not None and not clashes(unlikes, more):
            _search(shelves, rest, unlikes, more, found)


def found_calls(shelves, atoms, unlikes, calls):
    """All calls beyond some by which atoms are facts of the shelves and no unlikes clash."""
    found = []
    if not clashes(unlikes, calls):
        _search(shelves, atoms, unlikes, calls, found)
    return found


def is_found(shelves, atoms, calls):
    """Whether there are calls beyond some by which atoms are facts of the shelves."""
    if len(atoms) == 0:
        return True
    index, rows = _tightest(shelves, atoms, calls)
    rest = atoms[:index] + atoms[index + 1:]
    for fact in rows:
        more = extended(atoms[index], fact, calls)
        if more is not None and is_found(shelves, rest, more):
            return True
    return False


def is_barred(pattern, calls, barred):
    """Whether an atom behind a not becomes one of the barred facts."""
    for atom in pattern.nots:
        if filled(atom, calls) in barred:
            return True
    return False


def letters_alone(pattern, calls):
    """The dict from just the letters of the body, in their order, of what calls tells."""
    return {letter: calls[letter] for letter in pattern.letters}


def calls_key(calls):
    """What dicts from the same letters to terms are ordered by."""
    return tuple([term_key(term) for term in list(calls.values())])


def sorted_matches(pattern, shelves, barred, calls):
    """The list of the matches beyond some calls, in their order, with no barred fact behind a not."""
    found = []
    for more in found_calls(shelves, pattern.atoms, pattern.unlikes, calls):
        if not is_barred(pattern, more, barred):
            found.append(letters_alone(pattern, more))
    return sorted(found, key=calls_key)
