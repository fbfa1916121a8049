"""Dealings that each see what was there when they began: how they end, and the ties between those that are done."""

from rulehouse.dealings import READ, WRITE, least_order, least_ring
from rulehouse.errors import BadTimes
from rulehouse.plans import checked_plan

BEGIN = "begin"
END = "end"


def _as_time(names, thing):
    """The pair (word, dealing) that any object is, None if it is none."""
    if not isinstance(thing, (list, tuple)) or len(thing) != 2:
        return None
    is_one = isinstance(thing[0], str) and isinstance(thing[1], str) and thing[0] in (BEGIN, END) and thing[1] in names
    return tuple(thing) if is_one else None


def _checked_times(plan, times):
    """The dict from the pairs of times to their places: BadTimes."""
    if not isinstance(times, (list, tuple)):
        raise BadTimes(0)
    found = {}
    for index, thing in enumerate(times):
        time = _as_time(plan, thing)
        if time is None or time in found or (time[0] == END and (BEGIN, time[1]) not in found):
            raise BadTimes(index)
        found[time] = index
    if len(found) < 2 * len(plan):
        raise BadTimes(len(found))
    return found


def _relations(works, word):
    """The dict of the relations that works read, or write, at some such work not having written them ahead."""
    found = {}
    written = {}
    for told, relation in works:
        if told == word and relation not in written:
            found[relation] = True
        if told == WRITE:
            written[relation] = True
    return found


class Dealings:
    """The dealings of a plan, with the times of their begins and ends, and how they end."""

    def __init__(self, plan, times):
        works = checked_plan(plan)
        found = _checked_times(works, times)
        self.begins = {name: found[(BEGIN, name)] for name in works}
        self.ends = {name: found[(END, name)] for name in works}
        self.written = {name: _relations(works[name], WRITE) for name in works}
        self.seen = {name: _relations(works[name], READ) for name in works}
        self.done = []
        self.outcomes = {}
        for name in sorted(list(works), key=lambda told: self.ends[told]):
            rivals = [other for other in self.done if self.ends[other] > self.begins[name]]
            if any([relation in self.written[other] for other in rivals for relation in self.written[name]]):
                self.outcomes[name] = "refused"
            else:
                self.outcomes[name] = "done"
                self.done.append(name)

    def _seen_from(self, name, relation):
        """The last dealing that is done, writes a relation and ended ahead of the begin of one, None if none did."""
        ahead = [other for other in self.done
                 if self.ends[other] < self.begins[name] and relation in self.written[other]]
        return ahead[-1] if ahead else None

    def ties(self):
        """The ascending list of the ties."""
        found = []
        for index, name in enumerate(self.done):
            for other in self.done[index + 1:]:
                both = [told for told in self.written[name] if told in self.written[other]]
                found.extend([(name, other, "write", told) for told in both])
            for relation in self.seen[name]:
                source = self._seen_from(name, relation)
                if source is not None:
                    found.append((source, name, "read", relation))
                found.extend([(name, other, "miss", relation) for other in self.done
                              if other != name and relation in self.written[other]
                              and self.ends[other] > self.begins[name]])
        return sorted(found)


def outcome(plan, times):
    """The dict from the dealings, in the order of their ends, to "done" or "refused"."""
    return Dealings(plan, times).outcomes


def ties(plan, times):
    """The ascending list of the ties of the dealings that are done."""
    return Dealings(plan, times).ties()


def straight(plan, times):
    """The least list of all done dealings in which the one of each tie stands ahead of the other, None if none is."""
    dealings = Dealings(plan, times)
    return least_order(dealings.done, [tie[:2] for tie in dealings.ties()])


def twist(plan, times):
    """A list of as few ties as can be that comes round, None if there is none."""
    dealings = Dealings(plan, times)
    return least_ring(dealings.done, {tie: tie[:2] for tie in dealings.ties()})
