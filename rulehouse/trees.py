"""Trees, the papers that show that a fact follows, and those with the least steps."""

from rulehouse.errors import BadNumber
from rulehouse.finding import Shelves, clashes, extended, patterns_of
from rulehouse.following import all_heights, calls_by_head, checked_fact, steps_of
from rulehouse.names import is_integer
from rulehouse.parts import as_fact
from rulehouse.rules import is_number_of, refuse_nots


def _fact_told_by(thing):
    """The fact at the head of any object as a tree, None if there is none."""
    if not isinstance(thing, (list, tuple)) or len(thing) != 3 or not isinstance(thing[2], (list, tuple)):
        return None
    return as_fact(thing[0])


def _is_step(pattern, fact, facts):
    """Whether a rule leads from facts, those of its atoms in order, to a fact."""
    calls = calls_by_head(pattern, fact)
    if calls is None or len(facts) != len(pattern.atoms):
        return False
    for atom, told in zip(pattern.atoms, facts):
        if told is None or told[0] != atom[0] or len(told) != len(atom):
            return False
        calls = extended(atom, told, calls)
        if calls is None:
            return False
    return not clashes(pattern.unlikes, calls)


def is_tree(rules, facts, fact, thing):
    """Whether any object is a tree of a fact."""
    refuse_nots(rules)
    if checked_fact(fact) != _fact_told_by(thing):
        return False
    patterns = patterns_of(rules)
    # A list of what is left to look through, as trees may be deeper than calls should be.
    left = [thing]
    while left:
        told, number, trees = left.pop()
        if number is None:
            if told not in facts or len(trees) > 0:
                return False
        elif not is_number_of(number, patterns):
            return False
        elif not _is_step(patterns[number], as_fact(told), [_fact_told_by(tree) for tree in trees]):
            return False
        left.extend(trees)
    return True


class Steps:
    """The steps of all that follows, and by how few of them each fact comes within each height.

    self.gains leads each fact to a list of triples (height, many, step), with fewer steps each:
    so many steps are the least of trees of at most this height, step being the last of them.
    """

    def __init__(self, rules, facts):
        shelves = Shelves(list(all_heights(rules, facts)))
        self.steps = steps_of(patterns_of(rules), shelves)
        self.using = {}
        for index, step in enumerate(self.steps):
            for fact in step[2]:
                self.using.setdefault(fact, []).append(index)
        self.gains = {fact: [(0, 0, None)] for fact in facts.listed()}

    def gain(self, fact, height):
        """The last triple of a fact up to a height (None: any), None if there is none."""
        best = None
        for triple in self.gains.get(fact, []):
            if height is None or triple[0] <= height:
                best = triple
        return best

    def many_by(self, step):
        """The number of the steps of a tree with a last step, None if its facts have no trees."""
        many = 1
        for fact in step[2]:
            if fact not in self.gains:
                return None
            many += self.gains[fact][-1][1]
        return many

    def grow(self, most):
        """Fills the gains up to a height, or till nothing gains any more."""
        touched = list(range(len(self.steps)))
        height = 0
        while touched and (most is None or height < most):
            height += 1
            better = self.better_by(touched)
            for fact, (many, step) in better.items():
                self.gains.setdefault(fact, []).append((height, many, step))
            again = {index: True for fact in better for index in self.using.get(fact, [])}
            touched = sorted(list(again))

    def better_by(self, touched):
        """The dict from the facts that gain by some steps to (many, step)."""
        better = {}
        for index in touched:
            step = self.steps[index]
            many = self.many_by(step)
            fact = step[0]
            if many is None or (fact in self.gains and self.gains[fact][-1][1] <= many):
                continue
            if fact not in better or many < better[fact][0]:
                better[fact] = (many, step)
        return better

    def needed(self, fact, most):
        """The dict from (height, fact) of all gains that a tree of a fact is made of to the gains."""
        found = {}
        left = [(most, fact)]
        while left:
            height, told = left.pop()
            gain = self.gain(told, height)
            if (gain[0], told) not in found:
                found[(gain[0], told)] = gain
                if gain[2] is not None:
                    left.extend([(gain[0] - 1, below) for below in gain[2][2]])
        return found

    def tree(self, fact, most):
        """A tree of a fact with as few steps as can be, if it has one up to this height."""
        found = self.needed(fact, most)
        trees = {}
        for height, told in sorted(list(found), key=lambda place: place[0]):
            step = found[(height, told)][2]
            if step is None:
                trees[(height, told)] = (told, None, ())
                continue
            below = [(self.gain(other, height - 1)[0], other) for other in step[2]]
            trees[(height, told)] = (told, step[1], tuple([trees[place] for place in below]))
        return trees[(self.gain(fact, most)[0], fact)]


def _steps_up_to(rules, facts, fact, most):
    """The steps of all that follows, grown up to a height, and the gain of the fact."""
    refuse_nots(rules)
    kept = checked_fact(fact)
    if most is not None and (not is_integer(most) or most < 0):
        raise BadNumber(most)
    steps = Steps(rules, facts)
    steps.grow(most)
    return steps, kept


def least_steps(rules, facts, fact, most=None):
    """The least number of steps of all trees of a fact up to a height, None if there is none."""
    steps, kept = _steps_up_to(rules, facts, fact, most)
    gain = steps.gain(kept, most)
    return None if gain is None else gain[1]


def tree_of(rules, facts, fact, most=None):
    """A tree of a fact up to a height with as few steps as can be, None if there is none."""
    steps, kept = _steps_up_to(rules, facts, fact, most)
    if steps.gain(kept, most) is None:
        return None
    return steps.tree(kept, most)
