"""The house: what it keeps, the deeds that were done in it, and the news of its watchers."""

from rulehouse.errors import Broken, NoName, NoVersion
from rulehouse.following import checked_fact
from rulehouse.holdings import Holding, empty_holding
from rulehouse.housesteps import OF_WATCHERS, checked_steps
from rulehouse.kept import change_between
from rulehouse.names import is_integer
from rulehouse.whys import blocks, tree_in


def _refuse_broken(holding):
    broken = holding.all_broken()
    if broken:
        raise Broken(broken[0][0], broken[0][1])


def _all_answers(holding):
    return {name: holding.answers(name) for name in holding.watched}


class House:
    """Facts, rules, watchers and promises, kept by deeds that are done whole or not at all.

    What has been is never changed: deeds, holdings and marks stand in tuples and dicts that others
    are put in the place of, so that trials and copies need but keep the old ones.
    """

    def __init__(self):
        self._past = (empty_holding(),)
        self._done = ()
        self._taken_back = ()
        self._marks = {}

    def do(self, steps):
        """Does a deed of some steps; returns the change (come, gone) of what stands."""
        told = checked_steps(steps)
        later = self._past[-1].behind(told)
        _refuse_broken(later)
        self._taken_back = ()
        return self._go_on(told, later)

    def _go_on(self, steps, later):
        """Puts a deed and what is kept behind it to those that are done."""
        self._past = self._past + (later,)
        self._done = self._done + (steps,)
        self._mark_anew(steps)
        return change_between(self._past[-2].what_stands, later.what_stands)

    def _mark_anew(self, steps):
        """Makes the answers the marks of the watchers that steps tell, as far as they are kept."""
        now = self._past[-1]
        told = {step[1]: True for step in steps if step[0] in OF_WATCHERS}
        marks = {name: self._marks[name] for name in self._marks if name not in told}
        for name in told:
            if name in now.watched:
                marks[name] = now.answers(name)
        self._marks = marks

    def breaks(self, steps):
        """The list of the pairs (name, match) of all promises that would not be kept behind some steps."""
        return self._past[-1].behind(checked_steps(steps)).all_broken()

    def given(self):
        """The Facts that are given."""
        return self._past[-1].base

    def standing(self):
        """The Facts that stand."""
        return self._past[-1].what_stands

    def rules(self):
        """The dict from names, ascending, to rules."""
        return {**self._past[-1].laid}

    def watchers(self):
        """The dict from names, ascending, to watchers."""
        return {**self._past[-1].watched}

    def promises(self):
        """The dict from names, ascending, to promises."""
        return {**self._past[-1].promising}

    def _check_watcher(self, name):
        if not isinstance(name, str) or name not in self._past[-1].watched:
            raise NoName(name)

    def answers(self, name):
        """The list of the answers of a watcher, in THE ORDER."""
        self._check_watcher(name)
        return self._past[-1].answers(name)

    def news(self, name):
        """The change (come, gone) from the mark of a watcher to its answers, which become its mark."""
        self._check_watcher(name)
        last = self._marks[name]
        now = self._past[-1].answers(name)
        self._marks = {**self._marks, name: now}
        return ([fact for fact in now if fact not in last], [fact for fact in last if fact not in now])

    def why(self, fact):
        """A tree, of as little height as can be, of a fact that stands, None of any other."""
        kept = checked_fact(fact)
        now = self._past[-1]
        return tree_in(now.ruling, now.base, now.what_stands, kept) if kept in now.what_stands else None

    def blocked(self, fact):
        """The list of the triples (name, match, place) of nots that keep a fact from standing, None if it stands."""
        kept = checked_fact(fact)
        now = self._past[-1]
        if kept in now.what_stands:
            return None
        names = list(now.laid)
        return [(names[number], match, place) for number, match, place in blocks(now.ruling, now.what_stands, kept)]

    def count(self):
        """The number of the deeds that are done and not taken back."""
        return len(self._done)

    def undo(self):
        """Takes the last deed back; returns the change of what stands, None if there is none."""
        if not self._done:
            return None
        steps = self._done[-1]
        last = self._past[-1]
        self._taken_back = self._taken_back + ((steps, last),)
        self._past = self._past[:-1]
        self._done = self._done[:-1]
        self._mark_anew(steps)
        return change_between(last.what_stands, self._past[-1].what_stands)

    def again(self):
        """Does the deed again that was taken back last; returns the change, None if there is none."""
        if not self._taken_back:
            return None
        steps, later = self._taken_back[-1]
        self._taken_back = self._taken_back[:-1]
        return self._go_on(steps, later)

    def deeds(self):
        """The list of the deeds that are done and not taken back, each a list of its steps."""
        return [list(steps) for steps in self._done]

    def at(self, number):
        """A house as this one was behind so many deeds."""
        if not is_integer(number) or not 0 <= number <= len(self._done):
            raise NoVersion(number)
        found = House()
        found._past = self._past[:number + 1]
        found._done = self._done[:number]
        found._marks = _all_answers(found._past[-1])
        return found

    def trial(self, work):
        """What a function of this house returns; behind it all is as it was ahead."""
        past = self._past
        done = self._done
        taken_back = self._taken_back
        marks = self._marks
        try:
            return work(self)
        finally:
            self._past = past
            self._done = done
            self._taken_back = taken_back
            self._marks = marks

    def copy(self):
        """Another house that is as this one is."""
        found = House()
        found._past = self._past
        found._done = self._done
        found._taken_back = self._taken_back
        found._marks = self._marks
        return found

    def _all_kept(self):
        now = self._past[-1]
        return (now.base.listed(), now.laid, now.watched, now.promising)

    def __eq__(self, other):
        return isinstance(other, House) and self._all_kept() == other._all_kept()


def house_of(given, laid, watched, promises):
    """The house that keeps some Facts, and dicts of rules, watchers and promises, with no deed done."""
    found = House()
    found._past = (Holding(given, laid, watched, promises, None),)
    _refuse_broken(found._past[0])
    found._marks = _all_answers(found._past[0])
    return found
