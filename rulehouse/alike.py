"""Plain rules that are the same but for letters, the order of their atoms, and atoms that stand twice."""

from rulehouse.names import is_letter


def _with_atoms_once(rule):
    """The rule with each atom of its body once."""
    head, body = rule
    return (head, tuple(list({atom: True for atom in body})))


def _places_of(rule):
    """The dict from the letters of a rule to where they stand: of the head or of which atoms, at which place."""
    head, body = rule
    found = {}
    for rank, atom in [(0, head)] + [(1, atom) for atom in body]:
        for place in range(1, len(atom)):
            if is_letter(atom[place]):
                found.setdefault(atom[place], []).append((rank, atom[0], place))
    return {letter: tuple(sorted(told)) for letter, told in found.items()}


def _form(atom, places):
    """An atom with places of letters in the place of letters."""
    terms = []
    for term in atom[1:]:
        if is_letter(term):
            terms.append((2, 0, places[term]))
        else:
            terms.append((0, term, ()) if isinstance(term, int) else (1, term, ()))
    return (atom[0], tuple(terms))


def _alike_key(rule):
    """What is the same for rules that are alike; few others have it, too."""
    head, body = rule
    places = _places_of(rule)
    atoms = [_form(atom, places) for atom in body]
    return (_form(head, places), tuple(sorted(atoms)))


def _paired(one, other, there, back):
    """The pair of dicts between letters by which one atom becomes another one, beyond some; None if it can't."""
    if one[0] != other[0] or len(one) != len(other):
        return None
    there = {letter: term for letter, term in there.items()}
    back = {letter: term for letter, term in back.items()}
    for mine, theirs in zip(one[1:], other[1:]):
        if is_letter(mine) != is_letter(theirs):
            return None
        if not is_letter(mine):
            if mine != theirs:
                return None
        elif there.setdefault(mine, theirs) != theirs or back.setdefault(theirs, mine) != mine:
            return None
    return there, back


def _is_paired(atoms, others, there, back):
    """Whether atoms become others, one by one, by pairs of letters beyond some."""
    if not atoms:
        return True
    for index, other in enumerate(others):
        pair = _paired(atoms[0], other, there, back)
        if pair is not None and _is_paired(atoms[1:], others[:index] + others[index + 1:], pair[0], pair[1]):
            return True
    return False


def _are_alike(one, other):
    """Whether two plain rules, their atoms standing once, are the same but for letters and order."""
    pair = _paired(one[0], other[0], {}, {})
    return pair is not None and len(one[1]) == len(other[1]) and _is_paired(one[1], other[1], pair[0], pair[1])


class Kinds:
    """Plain rules with each atom once, the first ones of those that are alike, called by their numbers."""

    def __init__(self):
        self._kept = []
        self._shelves = {}

    def put(self, told):
        """The number of the rule that is kept and like one; if there is none, this one is kept."""
        rule = _with_atoms_once(told)
        shelf = self._shelves.setdefault(_alike_key(rule), [])
        for number in shelf:
            if _are_alike(rule, self._kept[number]):
                return number
        shelf.append(len(self._kept))
        self._kept.append(rule)
        return len(self._kept) - 1

    def all_kept(self):
        """The list of the rules that are kept."""
        return list(self._kept)
