"""Steady worlds, and papers that there is none with some facts and without others."""

from rulehouse.facts import Facts
from rulehouse.opens import opens_of
from rulehouse.parts import as_fact
from rulehouse.turning import turning_of

CLASH = ("clash",)


def is_steady(rules, facts, thing):
    """Whether any object is a set of facts that is its own behind."""
    if not isinstance(thing, Facts):
        return False
    turning = turning_of(rules, facts)
    bits = turning.bits_of(thing.listed())
    # What is behind a set is of wide, so a set with other facts is none.
    return bits is not None and turning.behind(bits) == bits


def _worlds(opens, low, high, only_one):
    """The bits of the steady worlds between two sets, in their order, perhaps only the first one."""
    low, high = opens.narrowed(low, high)
    if low & high != low:
        return []
    if low == high:
        return [low]
    bit = opens.first_of(high - low)[1]
    found = _worlds(opens, low | bit, high, only_one)
    if found and only_one:
        return found
    return found + _worlds(opens, low, high - bit, only_one)


def steady_worlds(rules, facts):
    """The list of all steady worlds."""
    opens = opens_of(rules, facts)
    return [opens.world(bits) for bits in _worlds(opens, 0, opens.all_bits(), False)]


def _bounds(opens, have, lack):
    """The bits of what a world must have, and of what it may have; None if there is none."""
    low = opens.bits_held(have.listed())
    lacked = opens.bits_lacked(lack.listed())
    if low is None or lacked is None:
        return None
    return low, opens.all_bits() & ~lacked


def world_with(rules, facts, have, lack):
    """A steady world that has all of one set and none of another one, None if there is none."""
    opens = opens_of(rules, facts)
    bounds = _bounds(opens, have, lack)
    found = [] if bounds is None else _worlds(opens, bounds[0], bounds[1], True)
    return opens.world(found[0]) if found else None


def _paper(opens, low, high):
    """A paper that there is no steady world between two sets, None if there is one."""
    lower, upper = opens.narrowed(low, high)
    if lower & upper != lower:
        return CLASH
    if lower == upper:
        return None
    fact, bit = opens.first_of(upper - lower)
    one = _paper(opens, low | bit, high)
    other = None if one is None else _paper(opens, low, high - bit)
    if other is None:
        return None
    return ("split", fact, one, other)


def no_world_with(rules, facts, have, lack):
    """A paper that there is no steady world with one set and without another one, None if there is."""
    opens = opens_of(rules, facts)
    bounds = _bounds(opens, have, lack)
    return CLASH if bounds is None else _paper(opens, bounds[0], bounds[1])


def _is_clash(opens, bounds):
    if bounds is None:
        return True
    low, high = opens.narrowed(bounds[0], bounds[1])
    return low & high != low


def _halved(opens, bounds, fact):
    """The bounds of what has a fact, and of what lacks it."""
    if bounds is None:
        return None, None
    held = opens.bits_held([fact])
    lacked = opens.bits_lacked([fact])
    one = None if held is None else (bounds[0] | held, bounds[1])
    other = None if lacked is None else (bounds[0], bounds[1] & ~lacked)
    return one, other


def _is_sheet(thing):
    """Whether any object begins as a paper does."""
    if not isinstance(thing, (list, tuple)):
        return False
    return (len(thing) == 1 and thing[0] == "clash") or (len(thing) == 4 and thing[0] == "split")


def is_no_world_with(rules, facts, have, lack, thing):
    """Whether any object is a paper that there is no steady world with one set and without another one."""
    if not _is_sheet(thing):
        return False
    opens = opens_of(rules, facts)
    # A list of what is left to look through, as papers may be deeper than calls should be.
    left = [(thing, _bounds(opens, have, lack))]
    while left:
        paper, bounds = left.pop()
        if not _is_sheet(paper):
            return False
        if len(paper) == 1:
            if not _is_clash(opens, bounds):
                return False
            continue
        fact = as_fact(paper[1])
        if fact is None or not opens.is_wide(fact):
            return False
        one, other = _halved(opens, bounds, fact)
        left.append((paper[2], one))
        left.append((paper[3], other))
    return True
