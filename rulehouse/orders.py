"""How much is met on the way if the atoms of a body are matched one by one, or letters summed out."""

from rulehouse.errors import BadLetter, BadOrder, NotPlain
from rulehouse.finding import Pattern, Shelves, extended
from rulehouse.names import is_integer, is_letter, term_key
from rulehouse.parts import checked_body, is_plain, letters_in


def checked_plain(body):
    """The tuple of the atoms of a plain body: BadBody, then NotPlain."""
    parts = checked_body(body)
    for index, part in enumerate(parts):
        if not is_plain(part):
            raise NotPlain(index)
    return parts


def _behind_atom(shelves, atom, found):
    """The calls behind one more atom than those found so far."""
    more = []
    for calls in found:
        for fact in shelves.rows(atom, calls):
            longer = extended(atom, fact, calls)
            if longer is not None:
                more.append(longer)
    return more


def _is_order(thing, many):
    if not isinstance(thing, (list, tuple)) or not all([is_integer(index) for index in thing]):
        return False
    return sorted(thing) == list(range(many))


def join_sizes(facts, body, order):
    """The list of the numbers of matches of the first atoms in an order, up to all."""
    atoms = checked_plain(body)
    if not _is_order(order, len(atoms)):
        raise BadOrder(order)
    shelves = Shelves(facts.listed())
    found = [Pattern(atoms).seeds]
    sizes = []
    for index in order:
        found = _behind_atom(shelves, atoms[index], found)
        sizes.append(len(found))
    return sizes


def _fill_counts(shelves, atoms, chosen, found, counts):
    """Tells for each set of atoms, an ascending tuple, how many matches it has."""
    counts[chosen] = len(found)
    first = chosen[-1] + 1 if chosen else 0
    for index in range(first, len(atoms)):
        more = _behind_atom(shelves, atoms[index], found)
        _fill_counts(shelves, atoms, chosen + (index,), more, counts)


def _best_rest(chosen, many, counts, known):
    """The pair (cost, order) of the best way to match the atoms that are not chosen yet."""
    if chosen in known:
        return known[chosen]
    best = None
    for index in range(many):
        if index not in chosen:
            more = tuple(sorted(chosen + (index,)))
            cost, order = _best_rest(more, many, counts, known)
            if best is None or cost + counts[more] < best[0]:
                best = (cost + counts[more], [index] + order)
    known[chosen] = (0, []) if best is None else best
    return known[chosen]


def best_order(facts, body):
    """The pair (cost, order) of the least cost of all orders, and the first order that has it."""
    atoms = checked_plain(body)
    counts = {}
    _fill_counts(Shelves(facts.listed()), atoms, (), [Pattern(atoms).seeds], counts)
    cost, order = _best_rest((), len(atoms), counts, {})
    return (cost, list(order))


class Table:
    """A table: counts lead the tuples of the things of its letters to numbers above 0."""

    def __init__(self, letters, counts):
        self.letters = letters
        self.counts = counts


def _atom_table(shelves, atom, letters):
    """The table of an atom, its letters in the order in which they stand in a list."""
    own = letters_in([atom])
    kept = [letter for letter in letters if letter in own]
    found = _behind_atom(shelves, atom, [Pattern([atom]).seeds])
    return Table(kept, {tuple([calls[letter] for letter in kept]): 1 for calls in found})


def _by_shared(table, shared):
    """The dict from the things of some letters to the rows of a table that have them."""
    found = {}
    for key, many in table.counts.items():
        calls = {letter: thing for letter, thing in zip(table.letters, key)}
        found.setdefault(tuple([calls[letter] for letter in shared]), []).append((calls, many))
    return found


def _product(one, other, letters):
    """The table of two tables together."""
    shared = [letter for letter in one.letters if letter in other.letters]
    kept = [letter for letter in letters if letter in one.letters or letter in other.letters]
    behind = _by_shared(other, shared)
    rows = {}
    for things, pairs in _by_shared(one, shared).items():
        for mine, many in pairs:
            for theirs, times in behind.get(things, []):
                calls = {**mine, **theirs}
                rows[tuple([calls[letter] for letter in kept])] = many * times
    return Table(kept, rows)


def _together(tables, letters):
    """The table of several tables together, perhaps of none."""
    found = Table([], {(): 1})
    for table in tables:
        found = _product(found, table, letters)
    return found


def _without_letter(table, letter):
    """The table with a letter summed out."""
    place = table.letters.index(letter)
    rows = {}
    for key, many in table.counts.items():
        rest = key[:place] + key[place + 1:]
        rows[rest] = rows.get(rest, 0) + many
    return Table(table.letters[:place] + table.letters[place + 1:], rows)


def _check_letters(letters, known):
    """Raises BadLetter for the first thing that is none of the known letters or stood before."""
    if not isinstance(letters, (list, tuple)):
        raise BadLetter(0)
    for index, letter in enumerate(letters):
        if not is_letter(letter) or letter not in known or letter in letters[:index]:
            raise BadLetter(index)


def _row_key(key):
    return tuple([term_key(thing) for thing in key])


def summed_out(facts, body, letters):
    """The pair (sizes, table) that comes of summing out letters, one behind another."""
    atoms = checked_plain(body)
    known = letters_in(atoms)
    _check_letters(letters, known)
    shelves = Shelves(facts.listed())
    tables = [_atom_table(shelves, atom, known) for atom in atoms]
    sizes = []
    for letter in letters:
        taken = _together([table for table in tables if letter in table.letters], known)
        summed = _without_letter(taken, letter)
        sizes.append(len(summed.counts))
        tables = [table for table in tables if letter not in table.letters] + [summed]
    last = _together(tables, known)
    return (sizes, {key: last.counts[key] for key in sorted(list(last.counts), key=_row_key)})
