"""How many trees a fact has, those without a fact below itself, and those with just some leaves."""

from rulehouse.branches import Branches
from rulehouse.errors import BadNumber, BadProduct
from rulehouse.leaves import Splits
from rulehouse.names import is_integer
from rulehouse.parts import as_fact
from rulehouse.plaintrees import PlainTrees
from rulehouse.reasons import checked_question_of
from rulehouse.roundtrees import Rounds


def _many_by(counts, steps):
    """The number of trees by steps, if counts tells those of all facts in them."""
    many = 0
    for number, below in steps:
        product = 1
        for fact in below:
            product = product * counts[fact]
        many += product
    return many


def tree_count(rules, facts, fact, most=None):
    """The number of all trees of a fact up to a height; of all, or None if there is no greatest height."""
    kept = checked_question_of(rules, fact)
    if most is not None and (not is_integer(most) or most < 0):
        raise BadNumber(most)
    branches = Branches(rules, facts, kept)
    if most is None and branches.goes_round():
        return None
    rows = branches.needed(kept, len(branches.steps) if most is None else most)
    counts = {told: 1 if told in branches.base else 0 for told in rows[0]}
    for row in rows[1:]:
        counts = {told: _many_by(counts, branches.steps[told]) + (1 if told in branches.base else 0) for told in row}
    return counts.get(kept, 0)


def round_tree(rules, facts, fact):
    """A tree of least height in which some fact stands below itself, None if there is none."""
    kept = checked_question_of(rules, fact)
    branches = Branches(rules, facts, kept)
    if not branches.goes_round():
        return None
    found = Rounds(branches)
    while not found.has(kept):
        found.grow()
    return found.tree(kept)


def plain_trees(rules, facts, fact):
    """The list of all trees in which no fact stands below itself."""
    kept = checked_question_of(rules, fact)
    branches = Branches(rules, facts, kept)
    return PlainTrees(branches).trees(kept, 0) if kept in branches.steps else []


def as_pairs(thing, is_one):
    """The dict from facts to how often they stand that any object lists as pairs, None if it does not."""
    if not isinstance(thing, (list, tuple)):
        return None
    found = {}
    for pair in thing:
        if not isinstance(pair, (list, tuple)) or len(pair) != 2 or not is_integer(pair[1]) or pair[1] < 1:
            return None
        fact = as_fact(pair[0])
        if fact is None or fact in found or not is_one(fact):
            return None
        found[fact] = pair[1]
    return found


def trees_with(rules, facts, fact, product):
    """The number of all trees of a fact that have just these leaves, None if these are trees of any height."""
    kept = checked_question_of(rules, fact)
    leaves = as_pairs(product, lambda given: given in facts)
    if leaves is None:
        raise BadProduct(product)
    return Splits(Branches(rules, facts, kept), leaves).many_trees(kept)
