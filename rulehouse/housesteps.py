"""The steps of deeds that are done in a house."""

from rulehouse.errors import BadStep
from rulehouse.names import is_name
from rulehouse.parts import as_fact
from rulehouse.promises import as_promise_alone
from rulehouse.rules import as_rule_alone

PUT = "put"
TAKE = "take"
LAY = "lay"
LIFT = "lift"
WATCH = "watch"
UNWATCH = "unwatch"
PROMISE = "promise"
RELEASE = "release"
# For each kind of what is kept under names the words of the steps that put it there and away.
OF_RULES = ("lay", "lift")
OF_WATCHERS = ("watch", "unwatch")
OF_PROMISES = ("promise", "release")


def told_as(word, thing):
    """What a step with a word tells, of tuples, any object being that; None if it is none."""
    if word in (PUT, TAKE):
        return as_fact(thing)
    if word in (LAY, WATCH):
        return as_rule_alone(thing)
    return as_promise_alone(thing)


def as_step(thing):
    """The step that any object is, of tuples, None if it is none."""
    if not isinstance(thing, (list, tuple)) or len(thing) not in (2, 3) or not isinstance(thing[0], str):
        return None
    word = thing[0]
    if len(thing) == 2 and word in (LIFT, UNWATCH, RELEASE):
        return (word, thing[1]) if is_name(thing[1]) else None
    words = (PUT, TAKE) if len(thing) == 2 else (LAY, WATCH, PROMISE)
    if word not in words or (len(thing) == 3 and not is_name(thing[1])):
        return None
    told = told_as(word, thing[-1])
    return None if told is None else tuple(thing[:-1]) + (told,)


def checked_steps(steps):
    """The tuple of the steps that any object lists: BadStep."""
    if not isinstance(steps, (list, tuple)):
        raise BadStep(0)
    found = []
    for index, thing in enumerate(steps):
        found.append(as_step(thing))
        if found[-1] is None:
            raise BadStep(index)
    return tuple(found)
