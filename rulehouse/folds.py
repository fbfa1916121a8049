"""Folds, which count, add up, and tell the least and the most, and what comes of facts by them and by rules."""

from rulehouse.errors import BadFold, RingThroughNot, Unsafe
from rulehouse.facts import Facts
from rulehouse.finding import Pattern, Shelves, filled, sorted_matches
from rulehouse.levels import grown_at
from rulehouse.linking import is_strict_ring, least_levels, strict_ring
from rulehouse.names import is_integer, is_letter, term_key
from rulehouse.parts import as_atom, as_body, atom_of, is_plain, letters_in, loose_letters
from rulehouse.rules import atoms_of, is_number_of

WORDS = ("count", "sum", "least", "most")
MOST_HEAD_TERMS = 5


def _as_by(thing):
    """The tuple of the unlike letters that any object lists, None if it lists none or anything else."""
    if not isinstance(thing, (list, tuple)) or len(thing) == 0 or not all([is_letter(term) for term in thing]):
        return None
    return tuple(thing) if len({term: True for term in thing}) == len(thing) else None


def _as_fold(thing):
    """The fold that any object is, of tuples, None if it is none."""
    if not isinstance(thing, (list, tuple)) or len(thing) != 4:
        return None
    if not isinstance(thing[0], str) or thing[0] not in WORDS:
        return None
    head = as_atom(thing[1])
    by = _as_by(thing[2])
    body = as_body(thing[3])
    if head is None or by is None or body is None or len(head) > MOST_HEAD_TERMS + 1:
        return None
    return (thing[0], head, by, body)


def _loose_in_fold(fold):
    """The letters that keep a fold from being safe, in the order of head, by and body."""
    word, head, by, body = fold
    held = letters_in([part for part in body if is_plain(part)])
    found = loose_letters([head], body)
    found.extend([letter for letter in by if letter not in held])
    found.extend(loose_letters([part for part in body if not is_plain(part)], body))
    return found


def _checked_folds(folds):
    if not isinstance(folds, (list, tuple)):
        raise BadFold(0)
    kept = []
    for index, thing in enumerate(folds):
        fold = _as_fold(thing)
        if fold is None:
            raise BadFold(index)
        kept.append(fold)
    for index, fold in enumerate(kept):
        loose = _loose_in_fold(fold)
        if loose:
            raise Unsafe(index, loose[0])
    return tuple(kept)


class Folds:
    """A list of safe folds that never changes."""

    def __init__(self, folds):
        self._folds = _checked_folds(folds)

    def listed(self):
        """The list of the folds."""
        return list(self._folds)

    def __len__(self):
        return len(self._folds)

    def __eq__(self, other):
        return isinstance(other, Folds) and self._folds == other._folds


def _put_links(found, word, index, head, body, is_strict):
    """Puts the links of a rule or a fold to those that are found."""
    for place, part in enumerate(body):
        atom = atom_of(part)
        if atom is not None:
            found[(word, index, place)] = (head[0], atom[0], is_strict or part[0] == "not")


def _links(rules, folds):
    """The dict from all links to triples (from, to, whether of a fold or a not)."""
    found = {}
    for index, rule in enumerate(rules.listed()):
        _put_links(found, "rule", index, rule[0], rule[1], False)
    for index, fold in enumerate(folds.listed()):
        _put_links(found, "fold", index, fold[1], fold[3], True)
    return found


def fold_ring(rules, folds):
    """A fold ring with as few links as can be, None if there is none."""
    return strict_ring(_links(rules, folds))


def fold_levels(rules, folds):
    """The dict from all relations, ascending, to their levels, None if there are none."""
    if fold_ring(rules, folds) is not None:
        return None
    relations = {atom[0]: True for rule in rules.listed() for atom in atoms_of(rule)}
    for fold in folds.listed():
        for atom in atoms_of((fold[1], fold[3])):
            relations[atom[0]] = True
    return least_levels(_links(rules, folds), list(relations))


def is_fold_ring(rules, folds, thing):
    """Whether any object is a fold ring."""
    if not isinstance(thing, (list, tuple)) or len(thing) == 0:
        return False
    bodies = {"rule": [rule[1] for rule in rules.listed()], "fold": [fold[3] for fold in folds.listed()]}
    links = _links(rules, folds)
    told = []
    for link in thing:
        if not isinstance(link, (list, tuple)) or len(link) != 3 or not isinstance(link[0], str):
            return False
        if link[0] not in bodies or not is_number_of(link[1], bodies[link[0]]):
            return False
        if not is_number_of(link[2], bodies[link[0]][link[1]]) or tuple(link) not in links:
            return False
        told.append(links[tuple(link)])
    return is_strict_ring(told)


def _groups(fold, shelves):
    """The dict from the facts that the head becomes to dicts from the unlike rows of their matches."""
    word, head, by, body = fold
    pattern = Pattern(body, head)
    groups = {}
    for match in sorted_matches(pattern, shelves, shelves.known, pattern.seeds):
        calls = {**pattern.seeds, **match}
        rows = groups.setdefault(filled(head, calls), {})
        rows[tuple([calls[letter] for letter in by])] = True
    return groups


def _result(word, rows):
    """What a fold tells of the rows of a group, None if it tells nothing."""
    if word == "count":
        return len(rows)
    things = sorted([row[0] for row in rows], key=term_key)
    if word == "least":
        return things[0]
    if word == "most":
        return things[-1]
    numbers = [thing for thing in things if is_integer(thing)]
    return sum(numbers) if numbers else None


def _told_by(fold, shelves):
    """The facts that a fold tells."""
    found = []
    for group, rows in _groups(fold, shelves).items():
        result = _result(fold[0], list(rows))
        if result is not None:
            found.append(group + (result,))
    return found


def folded(facts, rules, folds):
    """The Facts of what comes of facts by folds and rules, level by level."""
    ring = fold_ring(rules, folds)
    if ring is not None:
        raise RingThroughNot(ring)
    found = fold_levels(rules, folds)
    standing = facts.listed()
    for level in range(max(list(found.values()), default=-1) + 1):
        shelves = Shelves(standing)
        told = [fact for fold in folds.listed() if found[fold[1][0]] == level for fact in _told_by(fold, shelves)]
        fresh = {fact: True for fact in told if fact not in shelves.known}
        standing = grown_at(rules, found, level, standing + list(fresh))
    return Facts(standing)
