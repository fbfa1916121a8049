"""Promises, which facts keep or break."""

from rulehouse.errors import BadPromise, Loose
from rulehouse.finding import Pattern, Shelves, filled, sorted_matches
from rulehouse.matching import is_match
from rulehouse.names import is_integer
from rulehouse.parts import as_atom, as_body, atom_of, filled_part, is_plain, loose_letters
from rulehouse.rules import are_even, check_even


def as_atoms(thing):
    """The tuple of the atoms that any object lists, None if it lists anything else."""
    if not isinstance(thing, (list, tuple)):
        return None
    atoms = tuple([as_atom(part) for part in thing])
    return None if None in atoms else atoms


def as_promise(thing):
    """The promise that any object is, of tuples, None if it is none."""
    if not isinstance(thing, (list, tuple)) or len(thing) != 2:
        return None
    body = as_body(thing[0])
    ways = as_atoms(thing[1])
    return None if body is None or ways is None else (body, ways)


def atoms_of_promise(promise):
    """The atoms of a promise, body and then ways, also those behind nots."""
    atoms = [atom_of(part) for part in promise[0]]
    return [atom for atom in atoms if atom is not None] + list(promise[1])


def _loose_in(promise):
    """The letters that make a promise loose, in the order of body and then ways."""
    body, ways = promise
    return loose_letters([part for part in body if not is_plain(part)] + list(ways), body)


def _checked_promises(promises):
    if not isinstance(promises, (list, tuple)):
        raise BadPromise(0)
    kept = []
    for index, thing in enumerate(promises):
        promise = as_promise(thing)
        if promise is None:
            raise BadPromise(index)
        kept.append(promise)
    check_even([atoms_of_promise(promise) for promise in kept])
    for index, promise in enumerate(kept):
        loose = _loose_in(promise)
        if loose:
            raise Loose(index, loose[0])
    return tuple(kept)


def as_promise_alone(thing):
    """The promise that any object is, of tuples, None if it is none or Promises does not take it alone."""
    promise = as_promise(thing)
    if promise is None or not are_even([atoms_of_promise(promise)]):
        return None
    return None if _loose_in(promise) else promise


class Promises:
    """A list of promises that never changes, called by their numbers."""

    def __init__(self, promises):
        self._promises = _checked_promises(promises)
        # Promises never change: what others make of them, and need again, they keep here.
        self.memory = {}

    def listed(self):
        """The list of the promises."""
        return list(self._promises)

    def all_broken(self, facts):
        """The list of the pairs (number, match) at which facts break promises."""
        shelves = Shelves(facts.listed())
        found = []
        for number, clause in enumerate(clauses_of(self)):
            for match in sorted_matches(clause, shelves, shelves.known, clause.seeds):
                calls = {**clause.seeds, **match}
                if not any([filled(way, calls) in shelves.known for way in clause.ways]):
                    found.append((number, match))
        return found

    def __len__(self):
        return len(self._promises)

    def __eq__(self, other):
        return isinstance(other, Promises) and self._promises == other._promises


class Bundle:
    """Promises put together as they are: what one calls a relation may have other places in another one."""

    def __init__(self, promises):
        self._promises = tuple(promises)
        self.memory = {}

    def listed(self):
        """The list of the promises."""
        return list(self._promises)

    def __len__(self):
        return len(self._promises)


def breaks_at(facts, promise, thing):
    """Whether any object is a match at which facts break a promise."""
    body, ways = promise
    return is_match(facts, body, thing) and not any([filled_part(way, thing) in facts for way in ways])


class Clause:
    """A promise taken apart: what must stand for it to matter, and what may stand for it to be kept.

    It can be searched with as a Pattern of its body can; its seeds have the things of its ways, too.
    """

    def __init__(self, promise):
        body, ways = promise
        whole = Pattern(body + ways)
        told = Pattern(body)
        self.atoms = told.atoms
        self.nots = told.nots
        self.ways = ways
        self.unlikes = told.unlikes
        self.letters = told.letters
        self.seeds = whole.seeds


def clauses_of(promises):
    """The tuple of the clauses of promises, made once and kept with them."""
    if "clauses" not in promises.memory:
        promises.memory["clauses"] = tuple([Clause(promise) for promise in promises.listed()])
    return promises.memory["clauses"]


def is_number_in(promises, number):
    """Whether any object is the number of a promise."""
    return is_integer(number) and 0 <= number < len(promises)
