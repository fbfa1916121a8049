"""Words of a relation retold by rows of views."""

from rulehouse.errors import BadViews
from rulehouse.machines import Loose, least_machine
from rulehouse.waying import check_ways, machine_of

NOWHERE = -1
OUTSIDE = 0


def _checked_views(rules, views):
    """The list of the views: BadViews for the first that no head has or that stood before."""
    if not isinstance(views, (list, tuple)) or len(views) == 0:
        raise BadViews(0)
    made = rules.made()
    found = []
    for index, view in enumerate(views):
        if not isinstance(view, str) or view not in made or view in found:
            raise BadViews(index)
        found.append(view)
    return found


def _led_to(machine, view, start):
    """The indexes, NOWHERE among them, to which the words of a view's machine lead in another one from an index."""
    if not view:
        return []
    found = {(start, 0): True}
    left = [(start, 0)]
    while left:
        index, place = left.pop()
        for sign, after in view[place][1].items():
            beside = (NOWHERE if index == NOWHERE else machine[index][1].get(sign, NOWHERE), after)
            if beside not in found:
                found[beside] = True
                left.append(beside)
    return sorted(list({index: True for index, place in found if view[place][0]}))


def _good_rows(machine, views):
    """The least machine of the good rows; views leads each view to its machine."""
    start = (0 if machine else NOWHERE,)
    moves = {}
    index = {start: 1}
    rows = [(False, {})]
    left = [start]
    while left:
        later = []
        for places in left:
            steps = {}
            for view in views:
                for place in places:
                    if (view, place) not in moves:
                        moves[(view, place)] = _led_to(machine, views[view], place)
                others = {other: True for place in places for other in moves[(view, place)]}
                key = tuple(sorted(list(others)))
                if key not in index:
                    index[key] = len(index) + 1
                    later.append(key)
                steps[view] = index[key]
            rows.append((all([place != NOWHERE and machine[place][0] for place in places]), steps))
        left = later
    # No row of no views is told, so it begins at a place of its own, that is no end.
    rows[0] = (False, rows[1][1])
    return least_machine(rows)


def _told_by(rows, views):
    """The loose machine of the words that come of the rows of a machine by words put in for views."""
    loose = Loose()
    for index, (is_end, steps) in enumerate(rows):
        if is_end:
            loose.put_end((index, OUTSIDE, OUTSIDE))
        for number, view in enumerate(list(steps)):
            for place, (is_last, moves) in enumerate(views[view]):
                here = (index, number + 1, place)
                if place == 0:
                    loose.put_free_step((index, OUTSIDE, OUTSIDE), here)
                if is_last:
                    loose.put_free_step(here, (steps[view], OUTSIDE, OUTSIDE))
                for sign, after in moves.items():
                    loose.put_step(here, sign, (index, number + 1, after))
    return loose


def _machines(rules, relation, views):
    """The machine of a relation, the dict from views to theirs, and the machine of the good rows."""
    check_ways([rules])
    named = {view: machine_of(rules, view) for view in _checked_views(rules, views)}
    machine = machine_of(rules, relation)
    return machine, named, _good_rows(machine, named)


def retold(rules, relation, views):
    """The least machine of all good rows of one or more views."""
    return _machines(rules, relation, views)[2]


def not_retold(rules, relation, views):
    """The first word of a relation that comes of no good row, None if there is none."""
    machine, named, rows = _machines(rules, relation, views)
    if not machine:
        return None
    loose = _told_by(rows, named)
    start = (0, loose.closed([(0, OUTSIDE, OUTSIDE)] if rows else []))
    words = {start: ()}
    left = [start]
    while left:
        later = []
        for told in left:
            index, places = told
            if machine[index][0] and not loose.is_end(places):
                return words[told]
            others = loose.next_places(places)
            for sign, after in machine[index][1].items():
                beside = (after, others.get(sign, ()))
                if beside not in words:
                    words[beside] = words[told] + (sign,)
                    later.append(beside)
        left = later
    return None
