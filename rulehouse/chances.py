"""How far what follows is trusted, by which chance it follows, and how much each given fact does for it."""

from math import factorial

from rulehouse.errors import BadChances, BadLevels
from rulehouse.facts import Facts, list_of_facts
from rulehouse.following import all_heights
from rulehouse.halving import all_halves, is_parted
from rulehouse.names import is_integer
from rulehouse.prices import odd_key
from rulehouse.ratios import as_fraction, lowest
from rulehouse.reasons import as_set, checked_question_of
from rulehouse.supports import supports_of
from rulehouse.trees import tree_of


def _check_levels(facts, levels):
    odd = odd_key(facts, levels, lambda value: is_integer(value))
    if odd:
        raise BadLevels(odd[0])


def _follows(rules, facts, fact):
    return fact in all_heights(rules, facts)


def _level(rules, facts, fact, levels):
    if _follows(rules, Facts([]), fact):
        return "any"
    reached = {levels[given]: True for given in facts.listed()}
    for number in sorted(list(reached), reverse=True):
        if _follows(rules, Facts([given for given in facts.listed() if levels[given] >= number]), fact):
            return number
    return None


def level(rules, facts, fact, levels):
    """The greatest number that all leaves of some tree reach, "any" without leaves, None without a tree."""
    kept = checked_question_of(rules, fact)
    _check_levels(facts, levels)
    return _level(rules, facts, kept, levels)


def level_papers(rules, facts, fact, levels):
    """The pair of a tree with no leaf below the level and a least break with no fact above it, None without one."""
    kept = checked_question_of(rules, fact)
    _check_levels(facts, levels)
    number = _level(rules, facts, kept, levels)
    if number is None or number == "any":
        return None
    tree = tree_of(rules, Facts([given for given in facts.listed() if levels[given] >= number]), kept)
    left = [given for given in facts.listed() if levels[given] <= number]
    for given in list(left):
        fewer = [other for other in left if other != given]
        if not _follows(rules, facts - Facts(fewer), kept):
            left = fewer
    return (tree, tuple(left))


def _is_chance(thing):
    """Whether any object is a fraction from 0 to 1."""
    fraction = as_fraction(thing)
    return fraction is not None and 0 <= fraction[0] <= fraction[1]


def _check_chances(facts, chances):
    odd = odd_key(facts, chances, lambda value: _is_chance(value))
    if odd:
        raise BadChances(odd[0])


def _share(given, chances, holds):
    """How many parts of all are the sets for which a list, by their numbers, tells True.

    There are as many parts as all bottoms make together.
    """
    parts = [1 if is_one else 0 for is_one in holds]
    # The sets beside each other in the list are alike but for one given fact, the first one first.
    for fact in given:
        top, bottom = chances[fact]
        parts = [parts[at] * (bottom - top) + parts[at + 1] * top for at in range(0, len(parts), 2)]
    return parts[0]


def chance(rules, facts, fact, chances):
    """The chance that a fact follows."""
    kept = checked_question_of(rules, fact)
    _check_chances(facts, chances)
    supports = supports_of(rules, facts)
    whole = 1
    for given in supports.base:
        whole = whole * chances[given][1]
    return lowest(_share(supports.base, chances, supports.follows_from(kept)), whole)


def chance_given(rules, facts, fact, chances, follow, lack):
    """The chance that a fact follows where all of some follow, and none of others, None where these never do."""
    kept = checked_question_of(rules, fact)
    _check_chances(facts, chances)
    following = list_of_facts(follow)
    lacking = list_of_facts(lack)
    supports = supports_of(rules, facts)
    holds = [True] * (1 << len(supports.base))
    for other in following:
        holds = [one and follows for one, follows in zip(holds, supports.follows_from(other))]
    for other in lacking:
        holds = [one and not follows for one, follows in zip(holds, supports.follows_from(other))]
    whole = _share(supports.base, chances, holds)
    if whole == 0:
        return None
    both = [one and follows for one, follows in zip(holds, supports.follows_from(kept))]
    return lowest(_share(supports.base, chances, both), whole)


def splits(rules, facts, fact):
    """A pair (yes, no) of lists of splits, one of which holds of each set: of reasons, and of breaks."""
    kept = checked_question_of(rules, fact)
    supports = supports_of(rules, facts)
    yes, no = all_halves(supports.follows_from(kept), len(supports.base))
    return tuple([[(supports.set_of(one), supports.set_of(other)) for one, other in rows] for rows in (yes, no)])


def _numbers_of(facts, rows):
    """The pairs of the numbers of the sets of the splits that any object lists, None if it lists anything else."""
    if not isinstance(rows, (list, tuple)):
        return None
    bits = {fact: 1 << index for index, fact in enumerate(facts.listed())}
    found = []
    for split in rows:
        if not isinstance(split, (list, tuple)) or len(split) != 2:
            return None
        sets = [as_set(facts, thing) for thing in split]
        if None in sets:
            return None
        found.append(tuple([sum([bits[fact] for fact in told]) for told in sets]))
    return found


def is_splits(rules, facts, fact, thing):
    """Whether any object is a pair (yes, no) of lists of splits, one of which holds of each set."""
    kept = checked_question_of(rules, fact)
    if not isinstance(thing, (list, tuple)) or len(thing) != 2:
        return False
    yes = _numbers_of(facts, thing[0])
    no = _numbers_of(facts, thing[1])
    if yes is None or no is None:
        return False
    follows = supports_of(rules, facts).follows_from(kept)
    every = len(follows) - 1
    if not all([follows[one] for one, other in yes]) or any([follows[every - other] for one, other in no]):
        return False
    return is_parted(yes + no, len(facts))


def shares(rules, facts, fact):
    """The dict from all given facts, in order, to the shares of orders in which a fact begins with each of them."""
    kept = checked_question_of(rules, fact)
    supports = supports_of(rules, facts)
    follows = supports.follows_from(kept)
    many = len(supports.base)
    sizes = [0]
    for _ in range(many):
        sizes = sizes + [size + 1 for size in sizes]
    orders = [factorial(size) * factorial(many - size - 1) for size in range(many)]
    found = {}
    for index, given in enumerate(supports.base):
        bit = 1 << index
        begun = [orders[sizes[number]] for number, is_one in enumerate(follows)
                 if not is_one and follows[number | bit]]
        found[given] = lowest(sum(begun), factorial(many))
    return found
