"""All steps below one fact, by which its trees branch."""

from rulehouse.finding import calls_by, calls_key, letters_alone, patterns_of
from rulehouse.growing import grown_steps


class Branches:
    """The facts that stand in trees of a fact, and their steps; a fact that does not follow has none.

    self.steps leads each of these facts to the list of its steps (number, facts), in their order;
    self.heights each of them to its least height.
    """

    def __init__(self, rules, facts, fact):
        patterns = patterns_of(rules)
        self.base = {told: True for told in facts.listed()}
        self.heights, steps = grown_steps(patterns, facts.listed())
        by_head = {}
        for head, number, below in steps:
            by_head.setdefault(head, []).append((number, below))
        self.steps = {}
        left = [fact] if fact in self.heights else []
        while left:
            told = left.pop()
            if told not in self.steps:
                self.steps[told] = _in_order(patterns, by_head.get(told, []))
                left.extend([other for step in self.steps[told] for other in step[1]])

    def goes_round(self):
        """Whether a fact stands below itself in some tree."""
        needs = {fact: [other for step in steps for other in step[1]] for fact, steps in self.steps.items()}
        return ranked(needs) is None

    def needed(self, fact, most):
        """The dicts of the facts below a fact that its trees up to a height need, from the least height to this one."""
        rows = [{fact: True} if fact in self.steps else {}]
        while rows[-1] and len(rows) <= most:
            rows.append({other: True for told in rows[-1] for step in self.steps[told] for other in step[1]})
        return rows[::-1]


def _in_order(patterns, steps):
    """Steps by numbers, then in the order of their matches."""
    keys = [(number, calls_key(letters_alone(patterns[number], calls_by(patterns[number], below))))
            for number, below in steps]
    return [steps[index] for index in sorted(list(range(len(steps))), key=lambda index: keys[index])]


def ranked(needs):
    """The list of the keys of a dict, each behind those that it needs; None if some go round."""
    users = {key: [] for key in needs}
    lacking = {}
    for key, others in needs.items():
        unlike = {other: True for other in others}
        lacking[key] = len(unlike)
        for other in unlike:
            users[other].append(key)
    found = []
    left = [key for key in needs if lacking[key] == 0]
    while left:
        key = left.pop()
        found.append(key)
        for user in users[key]:
            lacking[user] -= 1
            if lacking[user] == 0:
                left.append(user)
    return found if len(found) == len(needs) else None
