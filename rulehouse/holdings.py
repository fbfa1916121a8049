"""What a house keeps at a moment, what stands by it, and what it keeps behind the steps of a deed."""

from rulehouse.errors import NoName, TakenName
from rulehouse.facts import Facts
from rulehouse.housesteps import LAY, OF_PROMISES, OF_RULES, OF_WATCHERS, PROMISE, PUT, TAKE, WATCH
from rulehouse.levels import by_levels
from rulehouse.matching import answers_of
from rulehouse.promises import Promises
from rulehouse.rules import Rules


def _behind_names(kept, words, steps):
    """The dict, ascending, of what is kept under names behind steps with words of one kind: see _check_names."""
    found = {name: kept[name] for name in kept}
    for step in steps:
        if step[0] == words[0]:
            found[step[1]] = step[2]
        elif step[0] == words[1]:
            found.pop(step[1])
    return {name: found[name] for name in sorted(list(found))}


def _check_names(names, steps):
    """TakenName and NoName, step by step; names leads the first word of each kind to the names that are taken."""
    taken = {word: {name: True for name in names[word]} for word in names}
    for step in steps:
        for first, last in (OF_RULES, OF_WATCHERS, OF_PROMISES):
            if step[0] == first:
                if step[1] in taken[first]:
                    raise TakenName(step[1])
                taken[first][step[1]] = True
            elif step[0] == last:
                if step[1] not in taken[first]:
                    raise NoName(step[1])
                taken[first].pop(step[1])


def _alone(promises, last):
    """The dict from names to Promises of each promise alone, those of the last holding where they are the same."""
    found = {}
    for name, promise in promises.items():
        is_alike = last is not None and last.promising.get(name) == promise
        found[name] = last.alone[name] if is_alike else Promises([promise])
    return found


class Holding:
    """Given facts, and rules, watchers and promises under names; it never changes.

    What is made of them is taken from the holding ahead of it as far as they are the same.
    """

    def __init__(self, given, laid, watched, promises, last):
        self.base = given
        self.laid = laid
        self.watched = watched
        self.promising = promises
        self.alone = _alone(promises, last)
        is_alike = last is not None and list(last.laid.items()) == list(laid.items())
        self.ruling = last.ruling if is_alike else Rules(list(laid.values()))
        self.what_stands = last.what_stands if is_alike and last.base == given else by_levels(self.ruling, given)

    def behind(self, steps):
        """What is kept behind steps: TakenName and NoName, then Uneven and RingThroughNot."""
        _check_names({LAY: self.laid, WATCH: self.watched, PROMISE: self.promising}, steps)
        base = {fact: True for fact in self.base.listed()}
        for step in steps:
            if step[0] == PUT:
                base[step[1]] = True
            elif step[0] == TAKE:
                base.pop(step[1], None)
        given = Facts(list(base))
        laid = _behind_names(self.laid, OF_RULES, steps)
        watched = _behind_names(self.watched, OF_WATCHERS, steps)
        return Holding(given, laid, watched, _behind_names(self.promising, OF_PROMISES, steps), self)

    def all_broken(self):
        """The list of the pairs (name, first match) of the promises that are not kept, by names."""
        found = []
        for name, promises in self.alone.items():
            broken = promises.all_broken(self.what_stands)
            if broken:
                found.append((name, broken[0][1]))
        return found

    def answers(self, name):
        """The list of the answers of a watcher, in THE ORDER."""
        return answers_of(self.what_stands, self.watched[name]).listed()


def empty_holding():
    """The Holding that keeps nothing."""
    return Holding(Facts([]), {}, {}, {}, None)
