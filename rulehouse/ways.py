"""Way rules: the words of their relations, and whether those of one program are words of another one."""

from rulehouse.errors import BadNumber
from rulehouse.names import is_integer
from rulehouse.rules import is_number_of
from rulehouse.waying import check_ways, machine_of


def _lengths_to_ends(machine):
    """The list of the least numbers of signs that lead from the indexes of a machine to ends."""
    lengths = [0 if is_end else None for is_end, steps in machine]
    for many in range(1, len(machine)):
        ahead = list(lengths)
        for index, (is_end, steps) in enumerate(machine):
            if ahead[index] is None and any([ahead[other] is not None for other in list(steps.values())]):
                lengths[index] = many
    return lengths


def words_of(rules, relation, most):
    """The list of all words of a relation with at most so many signs, by THE ORDER OF CHOICES."""
    check_ways([rules])
    if not is_integer(most) or most < 0:
        raise BadNumber(most)
    machine = machine_of(rules, relation)
    lengths = _lengths_to_ends(machine)
    found = []
    rows = [((), 0)] if machine else []
    many = 0
    while rows and many <= most:
        found.extend([word for word, index in rows if machine[index][0]])
        longer = []
        for word, index in rows:
            for sign, other in machine[index][1].items():
                if many + 1 + lengths[other] <= most:
                    longer.append((word + (sign,), other))
        rows = longer
        many += 1
    return found


def word_machine(rules, relation):
    """The least machine of the words of a relation: pairs (is_end, steps), [] without words."""
    check_ways([rules])
    return machine_of(rules, relation)


def _first_beside(one, other):
    """The first word of one machine that is none of the other one, None if there is none."""
    if not one:
        return None
    start = (0, 0 if other else None)
    words = {start: ()}
    left = [start]
    while left:
        later = []
        for pair in left:
            mine, theirs = pair
            if one[mine][0] and (theirs is None or not other[theirs][0]):
                return words[pair]
            for sign, index in one[mine][1].items():
                beside = (index, None if theirs is None else other[theirs][1].get(sign))
                if beside not in words:
                    words[beside] = words[pair] + (sign,)
                    later.append(beside)
        left = later
    return None


def parting_way(one, other, relation):
    """The first word of a relation by the one that is none by the other, None if there is none."""
    check_ways([one, other])
    return _first_beside(machine_of(one, relation), machine_of(other, relation))


def _next_pairs(one, other, pair):
    """The pairs to which one comes from a pair, None if the other one can't go along or has no end there."""
    mine, theirs = one[pair[0]], other[pair[1]]
    if mine[0] and not theirs[0]:
        return None
    found = []
    for sign, index in mine[1].items():
        if sign not in theirs[1]:
            return None
        found.append((index, theirs[1][sign]))
    return found


def way_paper(one, other, relation):
    """The ascending list of the pairs to which one comes from (0, 0), None if there is no paper."""
    check_ways([one, other])
    mine, theirs = machine_of(one, relation), machine_of(other, relation)
    if not mine:
        return []
    if not theirs:
        return None
    found = {(0, 0): True}
    left = [(0, 0)]
    while left:
        pairs = _next_pairs(mine, theirs, left.pop())
        if pairs is None:
            return None
        for pair in pairs:
            if pair not in found:
                found[pair] = True
                left.append(pair)
    return sorted(list(found))


def is_way_paper(one, other, relation, thing):
    """Whether any object is a way paper."""
    check_ways([one, other])
    mine, theirs = machine_of(one, relation), machine_of(other, relation)
    if not isinstance(thing, (list, tuple)):
        return False
    found = {}
    for pair in thing:
        if not isinstance(pair, (list, tuple)) or len(pair) != 2:
            return False
        if not is_number_of(pair[0], mine) or not is_number_of(pair[1], theirs):
            return False
        found[tuple(pair)] = True
    if mine and (0, 0) not in found:
        return False
    for pair in found:
        beside = _next_pairs(mine, theirs, pair)
        if beside is None or not all([other_pair in found for other_pair in beside]):
            return False
    return True
