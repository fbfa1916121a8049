"""Trees, the papers that show that a fact follows, and those with the least steps."""

from rulehouse.errors import BadNumber
from rulehouse.finding import clashes, extended, patterns_of
from rulehouse.following import calls_by_head, checked_fact
from rulehouse.growing import Growth
from rulehouse.names import is_integer
from rulehouse.parts import as_fact
from rulehouse.rules import is_number_of, refuse_nots


def _fact_told_by(thing):
    """The fact at the head of any object as a tree, None if there is none."""
    if not isinstance(thing, (list, tuple)) or len(thing) != 3 or not isinstance(thing[2], (list, tuple)):
        return None
    return as_fact(thing[0])


def _is_step(pattern, fact, facts):
    """Whether a rule leads from facts, those of its atoms in order, to a fact."""
    calls = calls_by_head(pattern, fact)
    if calls is None or len(facts) != len(pattern.atoms):
        return False
    for atom, told in zip(pattern.atoms, facts):
        if told is None or told[0] != atom[0] or len(told) != len(atom):
            return False
        calls = extended(atom, told, calls)
        if calls is None:
            return False
    return not clashes(pattern.unlikes, calls)


def tree_nodes(patterns, facts, thing):
    """The list of the pairs (fact, number) of all trees in any object that is a tree, None of any other."""
    nodes = []
    # A list of what is left to look through, as trees may be deeper than calls should be.
    left = [thing]
    while left:
        tree = left.pop()
        fact = _fact_told_by(tree)
        if fact is None:
            return None
        told, number, trees = tree
        if number is None:
            if fact not in facts or len(trees) > 0:
                return None
        elif not is_number_of(number, patterns):
            return None
        elif not _is_step(patterns[number], fact, [_fact_told_by(below) for below in trees]):
            return None
        nodes.append((fact, number))
        left.extend(trees)
    return nodes


def is_tree(rules, facts, fact, thing):
    """Whether any object is a tree of a fact."""
    refuse_nots(rules)
    if checked_fact(fact) != _fact_told_by(thing):
        return False
    return tree_nodes(patterns_of(rules), facts, thing) is not None


class Steps:
    """The steps up to a height, and by how few of them each fact comes within each height up to it.

    self.gains leads each fact to a list of triples (height, many, step), with fewer steps each:
    so many steps are the least of trees of at most this height, step being the last of them.
    """

    def __init__(self, rules, facts, most):
        given = facts.listed()
        self._steps = []
        self._using = {}
        self._many_used = 0
        self._least = {fact: 0 for fact in given}
        self.gains = {fact: [(0, 0, None)] for fact in given}
        growth = Growth(patterns_of(rules), given, {})
        touched = []
        height = 0
        while (touched or not growth.is_over()) and (most is None or height < most):
            height += 1
            more = growth.next_steps()
            self._steps.extend(more)
            touched = self.touched_by(self.grow(height, touched + more))

    def gain(self, fact, height):
        """The last triple of a fact up to a height (None: any), None if there is none."""
        best = None
        for triple in self.gains.get(fact, []):
            if height is None or triple[0] <= height:
                best = triple
        return best

    def grow(self, height, steps):
        """Puts what comes by some steps at a height to the gains: the facts that came ahead by more steps."""
        better = {}
        for step in steps:
            many = 1
            for fact in step[2]:
                many += self._least[fact]
            head = step[0]
            if (head not in self._least or many < self._least[head]) and (head not in better or many < better[head][0]):
                better[head] = (many, step)
        improved = [fact for fact in better if fact in self._least]
        for fact, (many, step) in better.items():
            self._least[fact] = many
            self.gains.setdefault(fact, []).append((height, many, step))
        return improved

    def touched_by(self, improved):
        """The list of the steps, of those that are kept, that use one of some facts."""
        if not improved:
            return []
        for index in range(self._many_used, len(self._steps)):
            for fact in self._steps[index][2]:
                self._using.setdefault(fact, []).append(index)
        self._many_used = len(self._steps)
        touched = {index: True for fact in improved for index in self._using.get(fact, [])}
        return [self._steps[index] for index in sorted(list(touched))]

    def needed(self, fact, most):
        """The dict from (height, fact) of all gains that a tree of a fact is made of to the gains."""
        found = {}
        left = [(most, fact)]
        while left:
            height, told = left.pop()
            gain = self.gain(told, height)
            if (gain[0], told) not in found:
                found[(gain[0], told)] = gain
                if gain[2] is not None:
                    left.extend([(gain[0] - 1, below) for below in gain[2][2]])
        return found

    def tree(self, fact, most):
        """A tree of a fact with as few steps as can be, if it has one up to this height."""
        found = self.needed(fact, most)
        trees = {}
        for height, told in sorted(list(found), key=lambda place: place[0]):
            step = found[(height, told)][2]
            if step is None:
                trees[(height, told)] = (told, None, ())
                continue
            below = [(self.gain(other, height - 1)[0], other) for other in step[2]]
            trees[(height, told)] = (told, step[1], tuple([trees[place] for place in below]))
        return trees[(self.gain(fact, most)[0], fact)]


def _steps_up_to(rules, facts, fact, most):
    """The steps of all that follows, grown up to a height, and the gain of the fact."""
    refuse_nots(rules)
    kept = checked_fact(fact)
    if most is not None and (not is_integer(most) or most < 0):
        raise BadNumber(most)
    return Steps(rules, facts, most), kept


def least_steps(rules, facts, fact, most=None):
    """The least number of steps of all trees of a fact up to a height, None if there is none."""
    steps, kept = _steps_up_to(rules, facts, fact, most)
    gain = steps.gain(kept, most)
    return None if gain is None else gain[1]


def tree_of(rules, facts, fact, most=None):
    """A tree of a fact up to a height with as few steps as can be, None if there is none."""
    steps, kept = _steps_up_to(rules, facts, fact, most)
    if steps.gain(kept, most) is None:
        return None
    return steps.tree(kept, most)
