"""Houses and their deeds as texts, and read from texts."""

from rulehouse.errors import (BadLine, BadPromise, BadText, Broken, NoName, RingThroughNot, TakenName, Uneven)
from rulehouse.facts import Facts
from rulehouse.houses import House, house_of
from rulehouse.housesteps import PROMISE, as_step
from rulehouse.parts import atom_key
from rulehouse.promises import as_promise
from rulehouse.texts import body_told, check_end, line_of, lines_of, part_told, rule_told

ARROW = " =>"
BAR = " | "
END = "done"
# The words of a house's lines, in order, and those of the steps that put the same there.
KINDS = ("rule", "watch", "promise", "fact")
STEPS = ("lay", "watch", "promise", "put")


def _promise_text(promise):
    body, ways = promise
    if not ways:
        return line_of(body) + ARROW
    return line_of(body) + ARROW + " " + BAR.join([line_of(way) for way in ways])


def promise_line(promise):
    """The text of a promise, on one line."""
    kept = as_promise(promise)
    if kept is None:
        raise BadPromise(0)
    return _promise_text(kept)


def _promise_told(text):
    """The promise that has a text, None if there is none."""
    body, word, rest = text.partition(ARROW)
    if word == "" or (rest != "" and not rest.startswith(" ")):
        return None
    ways = [] if rest == "" else [part_told(way) for way in rest[1:].split(BAR)]
    return as_promise((body_told(body), ways))


def promise_in(line):
    """The promise that has a text."""
    promise = _promise_told(line) if isinstance(line, str) else None
    if promise is None:
        raise BadText(line)
    return promise


def _step_in(line):
    """The step that has a text, None if there is none."""
    word, _, rest = line.partition(" ")
    if word in ("put", "take"):
        return as_step((word, part_told(rest)))
    if word in ("lift", "unwatch", "release"):
        return as_step((word, rest))
    name, _, text = rest.partition(" ")
    return as_step((word, name, _promise_told(text) if word == PROMISE else rule_told(text)))


def _step_text(step):
    told = step[-1]
    if step[0] == PROMISE:
        told = _promise_text(step[2])
    elif len(step) == 3 or step[0] in ("put", "take"):
        told = line_of(step[-1])
    return " ".join(list(step[:-1]) + [told])


def write_house(house):
    """The text with a line for each rule, watcher and promise, by names, and for each given fact."""
    lines = []
    for kind, kept in (("rule", house.rules()), ("watch", house.watchers())):
        lines.extend([kind + " " + name + " " + line_of(kept[name]) for name in kept])
    lines.extend(["promise " + name + " " + _promise_text(promise) for name, promise in house.promises().items()])
    lines.extend(["fact " + line_of(fact) for fact in house.given().listed()])
    return "".join([line + "\n" for line in lines])


def _house_line_in(line):
    """The step that puts what a line of a house's text tells, None if it tells nothing."""
    word, _, rest = line.partition(" ")
    if word not in KINDS:
        return None
    return _step_in(STEPS[KINDS.index(word)] + " " + rest)


def _line_key(step):
    """What the lines of a house's text are ordered by."""
    return (STEPS.index(step[0]), step[1] if len(step) == 3 else atom_key(step[1]))


def read_house(text):
    """The house that has a text, with no deed done."""
    lines = lines_of(text)
    steps = []
    for index, line in enumerate(lines[:-1]):
        step = _house_line_in(line)
        if step is None or (steps and not _line_key(steps[-1]) < _line_key(step)):
            raise BadLine(index)
        steps.append(step)
    check_end(lines)
    kept = [{step[1]: step[2] for step in steps if step[0] == word} for word in STEPS[:3]]
    return house_of(Facts([step[1] for step in steps if step[0] == "put"]), kept[0], kept[1], kept[2])


def write_deeds(house):
    """The text with the lines of the steps of each deed, and behind them the line done."""
    lines = [line for steps in house.deeds() for line in [_step_text(step) for step in steps] + [END]]
    return "".join([line + "\n" for line in lines])


def _is_refused(house, steps):
    """Whether a deed is refused; it is done if it is not."""
    try:
        house.do(steps)
    except (TakenName, NoName, Uneven, RingThroughNot, Broken):
        return True
    return False


def read_deeds(text):
    """A house that was told the deeds of a text, one behind the other."""
    lines = lines_of(text)
    house = House()
    steps = []
    for index, line in enumerate(lines[:-1]):
        if line == END:
            if _is_refused(house, steps):
                raise BadLine(index)
            steps = []
            continue
        steps.append(_step_in(line))
        if steps[-1] is None:
            raise BadLine(index)
    check_end(lines)
    if steps:
        raise BadLine(len(lines) - 1)
    return house
