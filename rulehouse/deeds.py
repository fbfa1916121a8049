"""Kinds of deeds, and the cases in which they could break a promise."""

from rulehouse.closings import parts_of_promises
from rulehouse.finding import Pattern, clashes, filled
from rulehouse.freezing import calls_up_to_names, first_new, things_named
from rulehouse.parts import as_body, filled_part, letters_in
from rulehouse.promises import as_atoms, clauses_of

KIND = 0
PROMISE = 1


def as_kind(thing):
    """The kind (body, takes, puts) that any object is, of tuples, None if it is none."""
    if not isinstance(thing, (list, tuple)) or len(thing) != 3:
        return None
    body = as_body(thing[0])
    takes = as_atoms(thing[1])
    puts = as_atoms(thing[2])
    if body is None or takes is None or puts is None or any([part[0] == "not" for part in body]):
        return None
    return (body, takes, puts)


def as_deed(thing):
    """The deed, a kind without letters and with an empty body, that any object is, None if it is none."""
    kind = as_kind(thing)
    if kind is None or kind[0] or letters_in(kind[1] + kind[2]):
        return None
    return kind


def can_be_done(body, facts, calls):
    """Whether a deed of a kind with a body can be done in facts by calls for all letters."""
    filled_body = [filled_part(part, calls) for part in body]
    if any([part[0] == "unlike" and part[1] == part[2] for part in filled_body]):
        return False
    return all([part in facts for part in filled_body if part[0] != "unlike"])


def things_asked(promises, kind):
    """The things of promises and of a kind."""
    return things_named(parts_of_promises(promises) + [part for parts in kind for part in parts])


class Case:
    """A case of a kind of deeds and a promise: what is put in for the letters of both, what is held and barred."""

    def __init__(self, calls, match, held, barred, is_touched):
        self.calls = calls
        self.match = match
        self.held = held
        self.barred = barred
        # Where the deed changes nothing that the match hangs on, what kept the promise keeps it.
        self.is_touched = is_touched

    def all_things(self):
        """The things that are put in for letters."""
        return list(self.calls.values()) + list(self.match.values())


class Doing:
    """A kind of deeds beside a promise."""

    def __init__(self, kind, clause):
        self._clause = clause
        self._body = Pattern(kind[0])
        self._takes = kind[1]
        self._puts = kind[2]
        self._seeds = Pattern(kind[0] + kind[1] + kind[2]).seeds
        self._letters = letters_in(kind[0] + kind[1] + kind[2])

    def sided_letters(self):
        """The letters of the kind and of the promise's body, each with its side."""
        return [(KIND, letter) for letter in self._letters] + [(PROMISE, letter) for letter in self._clause.letters]

    def case(self, both):
        """The case by calls from the letters of both sides, None if these make none."""
        calls = {letter: both[(KIND, letter)] for letter in self._letters}
        match = {letter: both[(PROMISE, letter)] for letter in self._clause.letters}
        mine = {**self._seeds, **calls}
        theirs = {**self._clause.seeds, **match}
        if clashes(self._body.unlikes, mine) or clashes(self._clause.unlikes, theirs):
            return None
        taken = [filled(atom, mine) for atom in self._takes]
        put = [filled(atom, mine) for atom in self._puts]
        needed = [filled(atom, theirs) for atom in self._clause.atoms]
        lacking = [filled(atom, theirs) for atom in self._clause.nots + self._clause.ways]
        if any([fact in taken and fact not in put for fact in needed]) or any([fact in put for fact in lacking]):
            return None
        held = [filled(atom, mine) for atom in self._body.atoms] + [fact for fact in needed if fact not in put]
        barred = [fact for fact in lacking if fact not in taken]
        is_touched = len(barred) < len(lacking) or any([fact in put for fact in needed])
        return Case(calls, match, held, barred, is_touched)


def cases_of(promises, kind, number):
    """The list of all cases of a kind of deeds and the promise with a number, in order."""
    things = things_asked(promises, kind)
    doing = Doing(kind, clauses_of(promises)[number])
    found = [doing.case(both) for both in calls_up_to_names(doing.sided_letters(), things, first_new(things))]
    return [case for case in found if case is not None]
