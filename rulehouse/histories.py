"""Histories of dealings: sources of reads, clashes, orders and rings of these, orders that are seen alike."""

from itertools import permutations

from rulehouse.dealings import GONE, READ, WRITE, checked_history, done_ones, least_order, least_ring
from rulehouse.errors import MadeWrite
from rulehouse.names import is_integer, is_name
from rulehouse.rules import hangs_on


def _sources(steps):
    """The dict from the indexes of reads to their sources; steps may leave out some of those of a history."""
    found = {}
    writes = {}
    for index, step in enumerate(steps):
        if step[0] == READ:
            told = writes.get(step[2], [])
            found[index] = told[-1] if told else None
        elif step[0] == WRITE:
            writes.setdefault(step[2], []).append(index)
        elif step[0] == GONE:
            writes = {relation: [at for at in writes[relation] if steps[at][1] != step[1]] for relation in writes}
    return found


def sources(history):
    """The dict from the indexes of the reads to those of their sources, None where there is none."""
    return _sources(checked_history(history))


def _works_done(steps):
    """The list of the pairs (index, step) of the reads and writes of dealings that are done."""
    done = done_ones(steps)
    return [(index, step) for index, step in enumerate(steps) if len(step) == 3 and step[1] in done]


def _clashes(steps):
    """The dict from all clashes, ascending, to the pairs of their dealings."""
    works = _works_done(steps)
    found = {}
    for index, step in works:
        for later, other in works:
            if index < later and step[1] != other[1] and step[2] == other[2] and WRITE in (step[0], other[0]):
                found[(index, later)] = (step[1], other[1])
    return found


def clashes(history):
    """The ascending list of the clashes."""
    return list(_clashes(checked_history(history)))


def order_of(history):
    """The least order of the done dealings that goes along with all clashes, None if there is none."""
    steps = checked_history(history)
    return least_order(done_ones(steps), list(_clashes(steps).values()))


def clash_ring(history):
    """A ring of as few clashes as can be, None if there is none."""
    steps = checked_history(history)
    return least_ring(done_ones(steps), _clashes(steps))


def is_order_of(history, thing):
    """Whether any object is an order of the done dealings that goes along with all clashes."""
    steps = checked_history(history)
    if not isinstance(thing, (list, tuple)) or not all([is_name(name) for name in thing]):
        return False
    if sorted(list(thing)) != done_ones(steps):
        return False
    place = {name: index for index, name in enumerate(thing)}
    return all([place[one] < place[other] for one, other in _clashes(steps).values()])


def _told_clashes(found, thing):
    """The pairs of dealings of the clashes that any object lists, None if it lists anything else."""
    if not isinstance(thing, (list, tuple)):
        return None
    told = []
    for pair in thing:
        if not isinstance(pair, (list, tuple)) or len(pair) != 2 or not all([is_integer(index) for index in pair]):
            return None
        if tuple(pair) not in found:
            return None
        told.append(found[tuple(pair)])
    return told


def is_clash_ring(history, thing):
    """Whether any object is a ring of clashes."""
    told = _told_clashes(_clashes(checked_history(history)), thing)
    if not told or len({one: True for one, other in told}) < len(told):
        return False
    return all([ahead[1] == pair[0] for ahead, pair in zip(told[-1:] + told[:-1], told)])


def _seen(works):
    """What is seen where reads and writes stand one behind another: sources of reads, and last writes."""
    seen = {}
    last = {}
    for index, step in works:
        if step[0] == READ:
            seen[index] = last.get(step[2])
        else:
            last[step[2]] = index
    return seen, last


def seen_orders(history):
    """The ascending list of the orders of the done dealings that are seen alike."""
    steps = checked_history(history)
    works = _works_done(steps)
    told = _sources(steps)
    wanted = ({index: told[index] for index, step in works if step[0] == READ}, _seen(works)[1])
    names = done_ones(steps)
    found = []
    for order in permutations(names):
        if _seen([work for name in order for work in works if work[1][1] == name]) == wanted:
            found.append(list(order))
    return found


def spread(history, rules):
    """The history in which reads of made relations stand as reads of the given ones on which these hang."""
    steps = checked_history(history)
    made = rules.made()
    for index, step in enumerate(steps):
        if step[0] == WRITE and step[2] in made:
            raise MadeWrite(index)
    found = []
    for step in steps:
        if step[0] == READ and step[2] in made:
            given = [relation for relation in hangs_on(rules, step[2]) if relation not in made]
            found.extend([(READ, step[1], relation) for relation in given])
        else:
            found.append(step)
    return found
