"""Facts that hold one another up when others are taken, though nothing given holds them."""

from rulehouse.circles import least_circle
from rulehouse.errors import BadSome
from rulehouse.facts import Facts
from rulehouse.finding import Shelves, patterns_of
from rulehouse.following import all_heights
from rulehouse.growing import grown_steps
from rulehouse.madeways import ways_in
from rulehouse.parts import as_fact
from rulehouse.rules import refuse_nots


def _checked_some(facts, some):
    """The list of the unlike facts of some others that an object lists: BadSome."""
    if not isinstance(some, (list, tuple)):
        raise BadSome(0)
    found = {}
    for index, thing in enumerate(some):
        fact = as_fact(thing)
        if fact is None or fact not in facts or fact in found:
            raise BadSome(index)
        found[fact] = True
    return list(found)


def _held_up(steps, left):
    """What is left of facts if each needs a step from what is left; left leads facts to whether they are given."""
    counts = {fact: 0 for fact in left}
    using = {}
    for index, (head, number, below) in enumerate(steps):
        counts[head] += 1
        for fact in list({told: True for told in below}):
            using.setdefault(fact, []).append(index)
    gone = {}
    going = [fact for fact in left if counts[fact] == 0 and not left[fact]]
    lost = {}
    while going:
        fact = going.pop()
        gone[fact] = True
        for index in using.get(fact, []):
            if index not in lost:
                lost[index] = True
                head = steps[index][0]
                counts[head] -= 1
                if counts[head] == 0 and not left[head] and head not in gone:
                    going.append(head)
    return {fact: True for fact in left if fact not in gone}


def _left_and_floating(rules, facts, some):
    """The triple of all steps of what stood, the dict of what is left, and the Facts of those left that float."""
    refuse_nots(rules)
    rest = facts - Facts(_checked_some(facts, some))
    rounds, steps = grown_steps(patterns_of(rules), facts.listed())
    left = _held_up(steps, {fact: fact in rest for fact in rounds})
    standing = all_heights(rules, rest)
    return steps, left, Facts([fact for fact in left if fact not in standing])


def floating(rules, facts, some):
    """The list of the facts that are left by counts of ways if some are taken, and do not stand by the others."""
    return _left_and_floating(rules, facts, some)[2].listed()


def is_floating(rules, facts, thing):
    """Whether any object is a list of facts that do not stand, each with a way in what stands and these."""
    refuse_nots(rules)
    if not isinstance(thing, (list, tuple)) or len(thing) == 0:
        return False
    standing = all_heights(rules, facts)
    told = {}
    for one in thing:
        fact = as_fact(one)
        if fact is None or fact in told or fact in standing:
            return False
        told[fact] = True
    shelves = Shelves(list(standing) + list(told))
    return all([ways_in(rules, shelves, fact) for fact in told])


def floating_ring(rules, facts, some):
    """A list of as few floating facts as can be, each next one holding up the one ahead, round; None if none floats."""
    steps, left, found = _left_and_floating(rules, facts, some)
    nexts = {fact: [] for fact in found.listed()}
    for head, number, below in steps:
        if head in nexts and all([fact in left for fact in below]):
            nexts[head].extend([fact for fact in below if fact in nexts])
    return least_circle(nexts)
