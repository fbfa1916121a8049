"""Wishes: the fewest changes of given facts by which some facts follow and others do not, and why there are none."""

from rulehouse.facts import Facts, list_of_facts
from rulehouse.following import all_heights
from rulehouse.finding import patterns_of
from rulehouse.partings import many_bits
from rulehouse.reasons import as_set
from rulehouse.rules import refuse_nots
from rulehouse.supports import choice_key, least_numbers, supports_of
from rulehouse.trees import tree_nodes, tree_of


class Wish:
    """What is wanted and what is barred, with the given facts and those that may be put."""

    def __init__(self, rules, facts, wanted, barred, menu):
        refuse_nots(rules)
        self.wanted = list_of_facts(wanted)
        self.barred = list_of_facts(barred)
        self.to_put = Facts(list_of_facts(menu)) - facts
        self.every = facts | self.to_put

    def is_granted_by(self, following):
        """Whether the wish is granted where just some facts follow."""
        return all([fact in following for fact in self.wanted]) and not any([fact in following for fact in self.barred])


def _as_change(wish, facts, thing):
    """The pair of the Facts that any object, as a change, takes and puts, None if it is none."""
    if not isinstance(thing, (list, tuple)) or len(thing) != 2:
        return None
    taken = as_set(facts, thing[0])
    put = as_set(wish.to_put, thing[1])
    return None if taken is None or put is None else (Facts(taken), Facts(put))


def grants(rules, facts, wanted, barred, menu, thing):
    """Whether any object is a change that grants a wish."""
    wish = Wish(rules, facts, wanted, barred, menu)
    change = _as_change(wish, facts, thing)
    return change is not None and wish.is_granted_by(all_heights(rules, (facts - change[0]) | change[1]))


def _all_wanted(supports, wanted):
    """The list, by the numbers of all sets, of whether all wanted facts follow from them."""
    found = [True] * (1 << len(supports.base))
    for fact in wanted:
        found = [one and other for one, other in zip(found, supports.follows_from(fact))]
    return found


def _granting(supports, wish):
    """The list, by the numbers of all sets, of whether a wish is granted by them alone."""
    found = _all_wanted(supports, wish.wanted)
    for fact in wish.barred:
        found = [one and not other for one, other in zip(found, supports.follows_from(fact))]
    return found


class Changes:
    """All changes for a wish, told by numbers: with a bit for each fact that is taken or put."""

    def __init__(self, rules, facts, wish):
        self._supports = supports_of(rules, wish.every)
        self._given = sum([1 << index for index, fact in enumerate(self._supports.base) if fact in facts])
        granting = _granting(self._supports, wish)
        self.granting = [granting[number ^ self._given] for number in range(len(granting))]

    def told(self, numbers):
        """The list of the changes with some numbers, in order."""
        pairs = [(number & self._given, number & ~self._given) for number in numbers]
        pairs = sorted(pairs, key=lambda pair: (many_bits(pair[0] | pair[1]), choice_key(pair[0]), choice_key(pair[1])))
        return [(self._supports.set_of(taken), self._supports.set_of(put)) for taken, put in pairs]


def least_changes(rules, facts, wanted, barred, menu):
    """The list of all changes that grant a wish with as few facts as can be."""
    changes = Changes(rules, facts, Wish(rules, facts, wanted, barred, menu))
    numbers = [number for number, is_one in enumerate(changes.granting) if is_one]
    fewest = min([many_bits(number) for number in numbers], default=0)
    return changes.told([number for number in numbers if many_bits(number) == fewest])


def _with_all_above(flags):
    """The flags of all sets, by their numbers, with those of the sets that have all of a flagged one."""
    found = list(flags)
    bit = 1
    while bit < len(found):
        found = [is_one or (number & bit > 0 and found[number - bit]) for number, is_one in enumerate(found)]
        bit = bit * 2
    return found


def lean_changes(rules, facts, wanted, barred, menu):
    """The list of all changes that grant a wish, but for those that have all of another one."""
    changes = Changes(rules, facts, Wish(rules, facts, wanted, barred, menu))
    return changes.told(least_numbers(_with_all_above(changes.granting)))


def _joint_sets(rules, facts, wanted):
    supports = supports_of(rules, facts)
    return [supports.set_of(number) for number in least_numbers(_all_wanted(supports, wanted))]


def joint_sets(rules, facts, wanted):
    """The list of all least sets of given facts from which all wanted facts follow."""
    refuse_nots(rules)
    return _joint_sets(rules, facts, list_of_facts(wanted))


def _tree_in(rules, told, barred):
    """A tree of the first barred fact that follows from a set, None if none does."""
    for fact in barred:
        tree = tree_of(rules, Facts(told), fact)
        if tree is not None:
            return tree
    return None


def bars(rules, facts, wanted, barred, menu):
    """The list of the pairs of a joint set and a tree of a barred fact, None if some change grants the wish."""
    wish = Wish(rules, facts, wanted, barred, menu)
    found = []
    for told in _joint_sets(rules, wish.every, wish.wanted):
        tree = _tree_in(rules, told, wish.barred)
        if tree is None:
            return None
        found.append((told, tree))
    return found


def _is_barred_tree(rules, told, barred, thing):
    """Whether any object is a tree of a barred fact with leaves in a set alone."""
    nodes = tree_nodes(patterns_of(rules), Facts(told), thing)
    return nodes is not None and nodes[0][0] in barred


def is_bars(rules, facts, wanted, barred, menu, thing):
    """Whether any object is a list of bars, one for each joint set."""
    wish = Wish(rules, facts, wanted, barred, menu)
    if not isinstance(thing, (list, tuple)):
        return False
    left = {told: True for told in _joint_sets(rules, wish.every, wish.wanted)}
    for pair in thing:
        if not isinstance(pair, (list, tuple)) or len(pair) != 2:
            return False
        told = as_set(wish.every, pair[0])
        if told not in left or not _is_barred_tree(rules, told, wish.barred, pair[1]):
            return False
        left.pop(told)
    return not left
