"""Polynomials of given facts, which tell how many trees have just which leaves."""

from rulehouse.branches import Branches
from rulehouse.errors import BadNumber, BadPolynomial, BadWorths
from rulehouse.names import is_integer
from rulehouse.parts import as_fact, atom_key
from rulehouse.plaintrees import PlainTrees
from rulehouse.reasons import checked_question_of
from rulehouse.treecounts import as_pairs


def _product_key(product):
    """What products are ordered by: how many factors they have, then these."""
    facts = [atom_key(fact) for fact, many in product for _ in range(many)]
    return (len(facts), facts)


def _as_product(leaves):
    """The product of a dict from facts to how often they stand."""
    return tuple([(fact, leaves[fact]) for fact in sorted(list(leaves), key=atom_key)])


def _in_order(found):
    """The polynomial with its products in order."""
    return {product: found[product] for product in sorted(list(found), key=_product_key)}


def _leaves_of(tree):
    """The product of the given facts at the ends of a tree."""
    leaves = {}
    left = [tree]
    while left:
        fact, number, trees = left.pop()
        if number is None:
            leaves[fact] = leaves.get(fact, 0) + 1
        left.extend(trees)
    return _as_product(leaves)


def polynomial(rules, facts, fact):
    """The polynomial that tells how many plain trees of a fact have just which leaves."""
    kept = checked_question_of(rules, fact)
    branches = Branches(rules, facts, kept)
    found = {}
    for tree in PlainTrees(branches).trees(kept, 0) if kept in branches.steps else []:
        product = _leaves_of(tree)
        found[product] = found.get(product, 0) + 1
    return _in_order(found)


def _times(one, other):
    """The product of two dicts from rows of how often facts stand to numbers."""
    found = {}
    for first, many in one.items():
        for second, times in other.items():
            row = tuple([left + right for left, right in zip(first, second)])
            found[row] = found.get(row, 0) + many * times
    return found


def _by_steps(rows, steps, alone, none):
    """The dict from rows to numbers by a fact alone, if it is given, and by its steps."""
    found = {} if alone is None else {alone: 1}
    for number, below in steps:
        terms = {none: 1}
        for fact in below:
            terms = _times(terms, rows[fact])
        for row, many in terms.items():
            found[row] = found.get(row, 0) + many
    return found


def polynomial_to(rules, facts, fact, height):
    """The polynomial that tells how many trees of a fact up to a height have just which leaves."""
    kept = checked_question_of(rules, fact)
    if not is_integer(height) or height < 0:
        raise BadNumber(height)
    branches = Branches(rules, facts, kept)
    given = facts.listed()
    none = tuple([0] * len(given))
    alone = {told: none[:index] + (1,) + none[index + 1:] for index, told in enumerate(given)}
    needed = branches.needed(kept, height)
    rows = {told: _by_steps({}, [], alone.get(told), none) for told in needed[0]}
    for row in needed[1:]:
        rows = {told: _by_steps(rows, branches.steps[told], alone.get(told), none) for told in row}
    found = {}
    for row, many in rows.get(kept, {}).items():
        found[_as_product({told: times for told, times in zip(given, row) if times > 0})] = many
    return _in_order(found)


def _as_polynomial(thing):
    """The polynomial that any object is, None if it is none."""
    if not isinstance(thing, dict):
        return None
    found = {}
    for key, many in thing.items():
        leaves = as_pairs(key, lambda fact: True)
        if leaves is None or not is_integer(many) or many < 1:
            return None
        product = _as_product(leaves)
        if product in found:
            return None
        found[product] = many
    return found


def worth(polynomial, worths):
    """The number that comes of a polynomial by integers put in for facts, 1 for those that lack."""
    found = _as_polynomial(polynomial)
    if found is None:
        raise BadPolynomial(polynomial)
    if not isinstance(worths, dict):
        raise BadWorths(worths)
    for fact, number in worths.items():
        if as_fact(fact) is None or not is_integer(number):
            raise BadWorths(fact)
    total = 0
    for product, many in found.items():
        for fact, times in product:
            for _ in range(times):
                many = many * worths.get(fact, 1)
        total += many
    return total
