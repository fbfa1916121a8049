"""Steps of dealings, and rings of links between these."""

from rulehouse.circles import least_circle
from rulehouse.errors import BadStep
from rulehouse.names import is_name

READ = "read"
WRITE = "write"
DONE = "done"
GONE = "gone"


def as_work(thing):
    """The pair (word, relation) of a read or a write that any object is, None if it is none."""
    if not isinstance(thing, (list, tuple)) or len(thing) != 2:
        return None
    is_one = isinstance(thing[0], str) and thing[0] in (READ, WRITE) and is_name(thing[1])
    return tuple(thing) if is_one else None


def _as_step(thing):
    """The step that any object is, a tuple, None if it is none."""
    if not isinstance(thing, (list, tuple)) or len(thing) not in (2, 3):
        return None
    if not isinstance(thing[0], str) or not all([is_name(word) for word in thing[1:]]):
        return None
    words = (READ, WRITE) if len(thing) == 3 else (DONE, GONE)
    return tuple(thing) if thing[0] in words else None


def checked_history(history):
    """The list of the steps of a history: BadStep for the first thing that is none or can't stand there."""
    if not isinstance(history, (list, tuple)):
        raise BadStep(0)
    steps = []
    ended = {}
    for index, thing in enumerate(history):
        step = _as_step(thing)
        if step is None or step[1] in ended:
            raise BadStep(index)
        if len(step) == 2:
            ended[step[1]] = True
        steps.append(step)
    return steps


def done_ones(steps):
    """The ascending list of the dealings that are done."""
    return sorted([step[1] for step in steps if step[0] == DONE])


def least_order(names, pairs):
    """The least list of names in which the first of each pair stands ahead of the second, None if there is none."""
    found = []
    left = sorted(names)
    while left:
        free = [name for name in left if not any([other == name and one in left for one, other in pairs])]
        if not free:
            return None
        found.append(free[0])
        left = [name for name in left if name != free[0]]
    return found


def least_ring(names, links):
    """A list of as few links as can be that lead on to one another, round; links are led to pairs (from, to)."""
    nexts = {name: [] for name in names}
    first = {}
    for link, pair in links.items():
        nexts[pair[0]].append(pair[1])
        first.setdefault(pair, link)
    circle = least_circle(nexts)
    if circle is None:
        return None
    return [first[pair] for pair in zip(circle, circle[1:] + circle[:1])]
