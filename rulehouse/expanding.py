"""Atoms of a plain rule taken together, all at once, with heads of others."""

from rulehouse.alike import Kinds
from rulehouse.joins import unfolded_by


def _with_marks(rule, many):
    """The rule with marks on its first atoms, so that each of them is like itself alone."""
    head, body = rule
    marked = [(atom[0] + " " + str(index),) + atom[1:] for index, atom in enumerate(body[:many])]
    return (head, tuple(marked) + body[many:])


def _unlike_rows(rows, many):
    """The first ones of rows (rule, flag) that are alike, the first so many atoms standing by themselves."""
    kinds = {True: Kinds(), False: Kinds()}
    numbers = {True: -1, False: -1}
    found = []
    for rule, flag in rows:
        number = kinds[flag].put(_with_marks(rule, many))
        if number > numbers[flag]:
            numbers[flag] = number
            found.append((rule, flag))
    return found


def taken_together(rule, others, wanted):
    """The list of what comes of a rule by taking atoms of its body together with heads of others.

    wanted tells by their places which of the others may not all lack. Of what is alike one is told.
    """
    rows = [(rule, False)]
    for index in reversed(range(len(rule[1]))):
        longer = list(rows)
        for told, has_wanted in rows:
            for other, is_wanted in zip(others, wanted):
                made = unfolded_by(told, index, other)
                if made is not None:
                    longer.append((made, has_wanted or is_wanted))
        # What comes of rows that are alike is alike, so one of them is enough.
        rows = _unlike_rows(longer, index)
    return [told for told, has_wanted in rows if has_wanted]
