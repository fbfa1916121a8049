"""Way rules, and the machines of the words that they tell."""

from rulehouse.errors import NoWay
from rulehouse.machines import Loose
from rulehouse.names import is_letter
from rulehouse.programs import refuse_unplain

END = -1


def _is_row(head, body):
    """Whether a plain rule's atoms lead, each by two letters, in a row from its head's first to its second letter."""
    if len(head) != 3 or not body or not all([len(atom) == 3 for atom in body]):
        return False
    row = [head[1]] + [atom[2] for atom in body]
    if not all([is_letter(term) for term in row]) or len({term: True for term in row}) < len(row):
        return False
    return row[-1] == head[2] and all([atom[1] == ahead for atom, ahead in zip(body, row)])


def _first_no_way(rules):
    made = rules.made()
    for index, (head, body) in enumerate(rules.listed()):
        if not _is_row(head, body) or any([atom[0] in made for atom in body[:-1]]):
            return index
    return None


def check_ways(programs):
    """Raises NotPlain, then NoWay, of the earlier ones of some rules first."""
    for rules in programs:
        refuse_unplain(rules)
    for rules in programs:
        index = _first_no_way(rules)
        if index is not None:
            raise NoWay(index)


def machine_of(rules, relation):
    """The least machine of the words of a relation, any object."""
    made = rules.made()
    if not isinstance(relation, str) or relation not in made:
        return []
    places = {told: index for index, told in enumerate(made)}
    loose = Loose()
    loose.put_end(END)
    many = len(made)
    for head, body in rules.listed():
        at = places[head[0]]
        signs = [atom[0] for atom in body]
        last = END
        if signs[-1] in places:
            last = places[signs[-1]]
            signs = signs[:-1]
        for sign in signs[:-1]:
            loose.put_step(at, sign, many)
            at = many
            many += 1
        if signs:
            loose.put_step(at, signs[-1], last)
        else:
            loose.put_free_step(at, last)
    return loose.least([places[relation]])
