"""Steps that use fresh facts, each found once, by rules that are taken apart ahead of a growth."""

from rulehouse.names import is_letter


class Stage:
    """What is bound behind some atoms of a body, and where to look for the others.

    The things that are bound stand in a row; slots leads each term to its place in this row. The
    last atom's new letters stand at self.places of its facts, terms that it names twice at the
    pairs of self.twins; self.apart has the slots that its joining bound and that must be unlike.
    """

    def __init__(self, pattern, shelves, path, slots):
        self._pattern = pattern
        self._shelves = shelves
        self._path = path
        self._later = {}
        atom = pattern.atoms[path[-1]]
        self.is_older = path[-1] < path[0]
        self.places = _first_places(atom, slots)
        self.twins = _twins(atom, slots)
        self._slots = {**slots}
        for place in self.places:
            self._slots[atom[place]] = len(self._slots)
        self.apart = _slots_apart(pattern.unlikes, slots, self._slots)
        self.looks = [self._look(index) for index in range(len(pattern.atoms)) if index not in path]
        self.head = [self._slots[term] for term in pattern.head[1:]] if not self.looks else []
        self.nots = [(atom[0], [self._slots[term] for term in atom[1:]]) for atom in pattern.nots if not self.looks]
        self.order = [path.index(index) for index in range(len(path))] if not self.looks else []

    def _look(self, index):
        """The triple (index, drawer, slots) of an atom: its facts lie in the drawer by what is bound."""
        atom = self._pattern.atoms[index]
        places = tuple([place for place in range(1, len(atom)) if atom[place] in self._slots])
        drawer = self._shelves.drawer((atom[0], len(atom)), places)
        return (index, drawer, [self._slots[atom[place]] for place in places])

    def later(self, index):
        """The stage behind this one and one more atom."""
        if index not in self._later:
            self._later[index] = Stage(self._pattern, self._shelves, self._path + (index,), self._slots)
        return self._later[index]


def _first_places(atom, slots):
    """The places at which an atom has letters for the first time that have no slots."""
    return [place for place in range(1, len(atom)) if atom[place] not in slots and atom[place] not in atom[1:place]]


def _twins(atom, slots):
    """The pairs of places of an atom that have one letter, one without a slot."""
    return [(atom.index(atom[place], 1), place) for place in range(1, len(atom))
            if atom[place] not in slots and atom[place] in atom[1:place]]


def _slots_apart(unlikes, ahead, slots):
    """The pairs of slots of unlikes that are bound now and were not ahead."""
    return [(slots[one], slots[other]) for one, other in unlikes
            if one in slots and other in slots and not (one in ahead and other in ahead)]


def _tightest(stage, bound):
    """The stage behind the atom that leaves the fewest facts to try, and these facts."""
    best = None
    fewest = ()
    for index, drawer, slots in stage.looks:
        rows = drawer.get(tuple([bound[slot] for slot in slots]), ())
        if best is None or len(rows) < len(fewest):
            best = index
            fewest = rows
    return stage.later(best), fewest


def _join(stage, rows, bound, facts, fresh, found):
    """Puts to found the triples (stage, bound, facts) of all matches by which a stage takes one of some rows."""
    for fact in rows:
        # A match with several fresh facts is found from the first of its atoms that has one.
        if stage.is_older and fact in fresh:
            continue
        if stage.twins and not all([fact[one] == fact[other] for one, other in stage.twins]):
            continue
        more = bound + tuple([fact[place] for place in stage.places])
        if stage.apart and any([more[one] == more[other] for one, other in stage.apart]):
            continue
        if stage.looks:
            later, next_rows = _tightest(stage, more)
            _join(later, next_rows, more, facts + (fact,), fresh, found)
        else:
            found.append((stage, more, facts + (fact,)))


def _is_barred(stage, bound, barred):
    for relation, slots in stage.nots:
        if (relation,) + tuple([bound[slot] for slot in slots]) in barred:
            return True
    return False


class Stride:
    """A rule with atoms, taken apart for going from fresh facts to its steps."""

    def __init__(self, number, pattern, shelves):
        self._number = number
        self._relation = pattern.head[0]
        self._things = tuple(list(pattern.seeds))
        slots = {thing: slot for slot, thing in enumerate(self._things)}
        self._starts = []
        # Two things that are told unlike and are one thing let nothing match.
        if not any([one == other for one, other in pattern.unlikes]):
            for index, atom in enumerate(pattern.atoms):
                places = tuple([place for place in range(1, len(atom)) if not is_letter(atom[place])])
                stage = Stage(pattern, shelves, (index,), slots)
                self._starts.append(((atom[0], len(atom)), places, tuple([atom[place] for place in places]), stage))

    def taken(self, fresh, barred):
        """The steps (head, number, facts) with one fresh fact at least and no barred one behind a not.

        fresh are shelves; what is fresh is among the facts that the stages look for, too.
        """
        found = []
        for kind, places, things, stage in self._starts:
            _join(stage, fresh.drawer(kind, places).get(things, ()), self._things, (), fresh.known, found)
        return [self._step(stage, bound, facts) for stage, bound, facts in found
                if not stage.nots or not _is_barred(stage, bound, barred)]

    def _step(self, stage, bound, facts):
        head = (self._relation,) + tuple([bound[slot] for slot in stage.head])
        return (head, self._number, tuple([facts[at] for at in stage.order]))
