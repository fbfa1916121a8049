"""What the document defines, told straight from its words and slowly, to hold the package to."""

import random
from itertools import product


def is_letter(term):
    return isinstance(term, str) and term[0].isupper()


def term_rank(term):
    if isinstance(term, int):
        return (0, term)
    if not is_letter(term):
        return (1, term)
    return (2, term[0], int(term[1:] or 0))


def atom_rank(atom):
    return (atom[0], len(atom), [term_rank(term) for term in atom[1:]])


def terms_of(part):
    return terms_of(part[1]) if part[0] == "not" else part[1:]


def letters_in(parts):
    return list(dict.fromkeys([term for part in parts for term in terms_of(part) if is_letter(term)]))


def put(atom, calls):
    return (atom[0],) + tuple([calls.get(term, term) for term in atom[1:]])


def plain(body):
    return [part for part in body if part[0] not in ("not", "unlike")]


def holds(part, calls, facts, passing=()):
    if part[0] == "not":
        return "not" in passing or put(part[1], calls) not in facts
    if part[0] == "unlike":
        one, other = put(part, calls)[1:]
        return one != other
    return put(part, calls) in facts


def things_in(facts):
    return sorted({thing for fact in facts for thing in fact[1:]}, key=term_rank)


def matches(facts, body, passing=()):
    letters = letters_in(body)
    found = []
    for things in product(things_in(facts), repeat=len(letters)):
        calls = dict(zip(letters, things))
        if all([holds(part, calls, facts, passing) for part in body]):
            found.append(calls)
    return found


def heads(rules, facts, passing=()):
    return {put(head, calls) for head, body in rules for calls in matches(facts, body, passing)}


def rounds(rules, facts, passing=()):
    found = [set(facts)]
    while True:
        more = found[-1] | heads(rules, found[-1], passing)
        if more == found[-1]:
            return found
        found.append(more)


def follows(rules, facts, passing=()):
    return rounds(rules, facts, passing)[-1]


def steps(rules, facts):
    """All steps as triples (head, number, facts)."""
    standing = follows(rules, facts)
    found = []
    for number, (head, body) in enumerate(rules):
        for calls in matches(standing, body):
            found.append((put(head, calls), number, tuple([put(atom, calls) for atom in plain(body)])))
    return found


def least_steps(rules, facts, fact, most):
    """By the definition of heights, height by height."""
    every = steps(rules, facts)
    least = {given: 0 for given in facts}
    for _ in range(most):
        more = {given: 0 for given in facts}
        for head, number, below in every:
            if all([other in least for other in below]):
                many = 1 + sum([least[other] for other in below])
                more[head] = min(many, more.get(head, many))
        if more == least:
            break
        least = more
    return least.get(fact)


def call_by(atom, calls):
    return (atom[0],) + tuple([None if is_letter(term) and term not in calls else calls.get(term, term)
                               for term in atom[1:]])


def agrees(fact, call):
    return fact[0] == call[0] and len(fact) == len(call) and all(
        [place is None or place == thing for place, thing in zip(call[1:], fact[1:])])


def ways(rule, call, many, standing, things):
    """The dicts of all ways along a rule from a call, behind its first so many atoms."""
    head, body = rule
    if head[0] != call[0] or len(head) != len(call):
        return []
    letters = {term for term, place in zip(head[1:], call[1:]) if is_letter(term) and place is not None}
    ahead = plain(body)[:many]
    letters = sorted(letters | set(letters_in(ahead)))
    found = []
    for told in product(things, repeat=len(letters)):
        calls = dict(zip(letters, told))
        if not agrees([put(head, calls)[0]] + list(put(head, calls)[1:]), call):
            continue
        if not all([put(atom, calls) in standing for atom in ahead]):
            continue
        unlikes = [part for part in body if part[0] == "unlike" and set(letters_in([part])) <= set(letters)]
        if all([holds(part, calls, standing) for part in unlikes]):
            found.append(calls)
    return found


def calls_up(rules, facts, goal):
    """The dict from all calls that come up to the least numbers of links to them."""
    standing = follows(rules, facts)
    things = things_in(standing | {("x",) + tuple([term for term in goal[1:] if not is_letter(term)])})
    for head, body in rules:
        things = things_in({("x",) + tuple(things)} | {
            ("x",) + tuple([term for part in [head] + list(body) for term in terms_of(part) if not is_letter(term)])})
    first = call_by(goal, {})
    found = {first: 0}
    left = [first]
    while left:
        call = left.pop(0)
        for rule in rules:
            atoms = plain(rule[1])
            for many in range(len(atoms)):
                for calls in ways(rule, call, many, standing, things):
                    other = call_by(atoms[many], calls)
                    if other not in found:
                        found[other] = found[call] + 1
                        left.append(other)
    return found


class Dice:
    """Small programs, thrown anew the same way each time."""

    def __init__(self, seed):
        self.random = random.Random(seed)

    def term(self, letters, things):
        return self.random.choice(list(letters) if self.random.random() < 0.8 else list(things))

    def atom(self, relations, letters, things):
        relation = self.random.choice(list(relations))
        return (relation,) + tuple([self.term(letters, things) for _ in range(relations[relation])])

    def fact(self, relations, things):
        relation = self.random.choice(list(relations))
        return (relation,) + tuple([self.random.choice(things) for _ in range(relations[relation])])

    def facts(self, many, relations, things):
        return [self.fact(relations, things) for _ in range(many)]

    def body(self, many, relations, letters, things, extras=("unlike",)):
        """A safe body of so many atoms at the most, perhaps with nots and unlikes among them."""
        atoms = [self.atom(relations, letters, things) for _ in range(self.random.randint(0, many))]
        held = letters_in(atoms) or list(things)
        parts = list(atoms)
        for extra in extras:
            if self.random.random() < 0.4:
                at = self.random.randint(0, len(parts))
                if extra == "unlike":
                    part = ("unlike", self.term(held, things), self.term(held, things))
                else:
                    part = ("not", self.atom(relations, held, things))
                parts.insert(at, part)
        return parts

    def rule(self, many, heads_of, relations, letters, things, extras=("unlike",)):
        body = self.body(many, relations, letters, things, extras)
        held = letters_in(plain(body)) or list(things)
        return (self.atom(heads_of, held, things), tuple(body))

    def program(self, many, extras=("unlike",)):
        """Rules and facts over the made relations p, q, r and the given e, f."""
        made = {"p": 1, "q": 2, "r": 1}
        given = {"e": 2, "f": 1}
        both = {**made, **given}
        things = ["a", "b", 3]
        rules = [self.rule(3, made, both, "XYZ", things, extras) for _ in range(many)]
        return rules, self.facts(self.random.randint(0, 6), both if self.random.random() < 0.3 else given, things)

    def flat(self, many, names="abcdef"):
        """Rules with nots over relations without places, and some facts of these."""
        rules = []
        for _ in range(many):
            body = []
            for _ in range(self.random.randint(0, 3)):
                atom = (self.random.choice(names),)
                body.append(("not", atom) if self.random.random() < 0.55 else atom)
            rules.append(((self.random.choice(names),), tuple(body)))
        return rules, [(self.random.choice(names),) for _ in range(self.random.choice((0, 0, 1, 2)))]

    def winding(self):
        """Rules of a pool, many of which go round, and up to six facts."""
        pool = [(("p", "X", "Y"), (("e", "X", "Y"),)), (("p", "X", "Z"), (("p", "X", "Y"), ("p", "Y", "Z"))),
                (("p", "X", "Z"), (("e", "X", "Y"), ("p", "Y", "Z"))), (("q", "X"), (("p", "X", "X"),)),
                (("q", "X"), (("p", "X", "Y"), ("q", "Y"))), (("q", "X"), (("f", "X"),)), (("n",), (("q", "X"), ("q", "Y"))),
                (("n",), (("n",), ("q", "X"))), (("q", "X"), (("n",), ("e", "X", "Y"))), (("m",), (("n",), ("n",))),
                (("n",), (("unlike", 1, 2),)), (("p", "X", "Y"), (("p", "Y", "X"),)), (("q", "X"), (("q", "X"),)),
                (("f", "X"), (("e", "X", "X"),)), (("m",), (("p", "X", "Y"), ("q", "Y"), ("unlike", "X", "Y"))),
                (("p", "X", "X"), (("f", "X"),)), (("n",), (("m",),)), (("q", "a"), (("e", "b", "X"),))]
        rules = self.random.sample(pool, self.random.randint(2, 6))
        facts = self.facts(self.random.randint(1, 6), {"e": 2, "f": 1} if self.random.random() < 0.8 else {"e": 2, "q": 1, "n": 0},
                           ["a", "b", 3])
        return rules, facts

    def any_nots(self, seed):
        """One or the other kind of program with nots."""
        if seed % 3 == 0:
            return self.program(seed % 7, ("not", "unlike"))
        return self.flat(1 + seed % 8, "abcdef"[:2 + seed % 5])


def is_goal_table(rules, facts, goal, table):
    """By the words of goal tables, of a dict from calls to lists of agreeing facts."""
    things = things_in([("x",) + tuple([thing for thing in row if thing is not None][1:])
                        for row in list(facts) + list(table) + [fact for told in table.values() for fact in told]])
    for head, body in rules:
        things = things_in([("x",) + tuple(things)] + [
            ("x",) + tuple([term for part in [head] + list(body) for term in terms_of(part) if not is_letter(term)])])
    # One thing at least, as letters that no way binds yet stand for any.
    things = things or ["a"]
    if call_by(goal, {}) not in table:
        return False
    for call, told in table.items():
        if not all([fact in told for fact in facts if agrees(fact, call)]):
            return False
        for rule in rules:
            if not _is_closed_along(rule, call, table, things):
                return False
    return True


def _is_closed_along(rule, call, table, things):
    head, body = rule
    if head[0] != call[0] or len(head) != len(call):
        return True
    atoms = plain(body)
    bound = {term for term, place in zip(head[1:], call[1:]) if is_letter(term) and place is not None}
    letters = sorted(bound | set(letters_in(atoms)))
    for row in product(things, repeat=len(letters)):
        calls = dict(zip(letters, row))
        for many in range(len(atoms) + 1):
            known = bound | set(letters_in(atoms[:many]))
            here = {letter: thing for letter, thing in calls.items() if letter in known}
            if not agrees(put(head, here), call):
                break
            unlikes = [part for part in body if part[0] == "unlike" and set(letters_in([part])) <= known]
            if not all([holds(part, here, ()) for part in unlikes]):
                break
            if many == len(atoms):
                if put(head, here) not in table[call]:
                    return False
                break
            asked = call_by(atoms[many], here)
            if asked not in table:
                return False
            if put(atoms[many], calls) not in table[asked]:
                break
    return True


def ground_cases(rules, facts):
    """All cases, as (number, calls, head, plain facts, not facts)."""
    wide = follows(rules, facts, ("not",))
    found = []
    for number, (head, body) in enumerate(rules):
        for calls in matches(wide, body, ("not",)):
            found.append((number, calls, put(head, calls), [put(atom, calls) for atom in plain(body)],
                          [put(part[1], calls) for part in body if part[0] == "not"]))
    return found


def behind(cases, facts, seen):
    found = set(facts)
    while True:
        more = found | {head for _, _, head, below, nots in cases
                        if all([fact in found for fact in below]) and not any([fact in seen for fact in nots])}
        if more == found:
            return found
        found = more


def turns(cases, facts):
    found = [set(), behind(cases, facts, set())]
    while behind(cases, facts, found[-1]) != found[-2]:
        found.append(behind(cases, facts, found[-1]))
    return found


def subsets(facts):
    """All sets of some of the facts."""
    facts = list(facts)
    for told in product((False, True), repeat=len(facts)):
        yield {fact for fact, is_in in zip(facts, told) if is_in}
