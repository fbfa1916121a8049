"""Machines that tell words: from loose ones, with many ways to go, to the least ones."""


class Loose:
    """A machine that may go several ways: it begins at some places, and a word is one that can end at an end.

    A place is an integer or a tuple of such.
    """

    def __init__(self):
        self._steps = {}
        self._free = {}
        self._ends = {}

    def put_step(self, place, sign, other):
        """Puts a step by a sign from a place to another one."""
        self._steps.setdefault(place, {}).setdefault(sign, {})[other] = True

    def put_free_step(self, place, other):
        """Puts a step without a sign."""
        self._free.setdefault(place, {})[other] = True

    def put_end(self, place):
        """Makes a place an end."""
        self._ends[place] = True

    def closed(self, places):
        """The sorted tuple of the places to which some lead without a sign."""
        found = {place: True for place in places}
        left = list(found)
        while left:
            for other in list(self._free.get(left.pop(), {})):
                if other not in found:
                    found[other] = True
                    left.append(other)
        return tuple(sorted(list(found)))

    def is_end(self, places):
        """Whether one of some places is an end."""
        return any([place in self._ends for place in places])

    def next_places(self, places):
        """The dict from signs to the places, closed, to which some places lead by them."""
        found = {}
        for place in places:
            for sign, others in self._steps.get(place, {}).items():
                for other in others:
                    found.setdefault(sign, {})[other] = True
        return {sign: self.closed(list(others)) for sign, others in found.items()}

    def least(self, starts):
        """The least machine with its words from some places."""
        first = self.closed(starts)
        index = {first: 0}
        rows = []
        left = [first]
        while left:
            later = []
            for places in left:
                steps = {}
                for sign, others in self.next_places(places).items():
                    if others not in index:
                        index[others] = len(index)
                        later.append(others)
                    steps[sign] = index[others]
                rows.append((self.is_end(places), steps))
            left = later
        return least_machine(rows)


def _leading_to_ends(rows):
    """The dict of the indexes from which a row leads to an end."""
    back = {}
    for index, (is_end, steps) in enumerate(rows):
        for other in list(steps.values()):
            back.setdefault(other, []).append(index)
    found = {index: True for index, row in enumerate(rows) if row[0]}
    left = list(found)
    while left:
        for other in back.get(left.pop(), []):
            if other not in found:
                found[other] = True
                left.append(other)
    return found


def _classes(rows):
    """The list of the classes of rows: those of one class have the same rows to ends."""
    classes = [1 if is_end else 0 for is_end, steps in rows]
    many = 0
    while many < len({told: True for told in classes}):
        many = len({told: True for told in classes})
        numbers = {}
        finer = []
        for own, (is_end, steps) in zip(classes, rows):
            key = (own, tuple([(sign, classes[steps[sign]]) for sign in sorted(list(steps))]))
            finer.append(numbers.setdefault(key, len(numbers)))
        classes = finer
    return classes


def least_machine(rows):
    """The least machine with the words of one: pairs (is_end, steps) as they are first met; [] without words."""
    alive = _leading_to_ends(rows)
    if 0 not in alive:
        return []
    rows = [(is_end, {sign: other for sign, other in steps.items() if other in alive}) for is_end, steps in rows]
    classes = _classes(rows)
    member = {}
    for index, told in enumerate(classes):
        member.setdefault(told, index)
    order = {classes[0]: 0}
    found = []
    left = [classes[0]]
    while left:
        later = []
        for told in left:
            is_end, steps = rows[member[told]]
            new = {}
            for sign in sorted(list(steps)):
                other = classes[steps[sign]]
                if other not in order:
                    order[other] = len(order)
                    later.append(other)
                new[sign] = order[other]
            found.append((is_end, new))
        left = later
    return found
