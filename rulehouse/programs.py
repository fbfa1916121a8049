"""Rules over all bases: which of them follow from which, and which are spare."""

from rulehouse.errors import NotPlain
from rulehouse.facts import Facts
from rulehouse.finding import patterns_of
from rulehouse.following import all_heights
from rulehouse.freezing import calls_up_to_names, first_new, frozen_calls, parts_of_rules, things_named
from rulehouse.growing import grown
from rulehouse.matching import checked_question
from rulehouse.parts import atom_key, filled_part, is_plain, letters_in, loose_in_rule
from rulehouse.rules import Rules
from rulehouse.trees import tree_of


def refuse_unplain(rules):
    """Raises NotPlain for the first rule that has a part that is no atom."""
    for index, rule in enumerate(rules.listed()):
        if not all([is_plain(part) for part in rule[1]]):
            raise NotPlain(index)


def _checked_rule(rule):
    """The rule as tuples: BadQuestion, then NotPlain for the first part of its body that is no atom."""
    kept = checked_question(rule)
    for index, part in enumerate(kept[1]):
        if not is_plain(part):
            raise NotPlain(index)
    return kept


def made_of(rule, calls):
    """The pair of the facts, each once, that a rule's body becomes, in THE ORDER, and of the one that its head does."""
    head, body = rule
    facts = {filled_part(atom, calls): True for atom in body}
    return sorted(list(facts), key=atom_key), filled_part(head, calls)


def frozen(listed, rule):
    """What a rule makes of integers that neither it nor listed rules name, put in for its letters."""
    parts = parts_of_rules(listed + [rule])
    return made_of(rule, frozen_calls(letters_in((rule[0],) + rule[1]), first_new(things_named(parts))))


def _follows(rules, facts, fact):
    return fact in grown(patterns_of(rules), facts, {})


def _rule_follows(rules, rule):
    facts, fact = frozen(rules.listed(), rule)
    return _follows(rules, facts, fact)


def rule_tree(rules, rule):
    """A tree of a rule's frozen head from its frozen body, None if the rule does not follow."""
    refuse_unplain(rules)
    facts, fact = frozen(rules.listed(), _checked_rule(rule))
    return tree_of(rules, Facts(facts), fact)


def rule_world(rules, rule):
    """The Facts of all that follows from a rule's frozen body, None if the rule follows."""
    refuse_unplain(rules)
    facts, fact = frozen(rules.listed(), _checked_rule(rule))
    world = all_heights(rules, Facts(facts))
    return None if fact in world else Facts(list(world))


def _unfollowed(one, other):
    return [number for number, rule in enumerate(one.listed()) if not _rule_follows(other, rule)]


def unfollowed(one, other):
    """The ascending list of the numbers of the rules of the one that do not follow by the other."""
    refuse_unplain(one)
    refuse_unplain(other)
    return _unfollowed(one, other)


def _all_orders(things):
    """All lists of some things, each once."""
    found = [[]]
    for thing in things:
        found = [row[:at] + [thing] + row[at:] for row in found for at in range(len(row) + 1)]
    return found


def _failing(rule, other, things, first):
    """The pairs (sizes, calls) of calls by which a rule makes a fact that does not follow, with the least sizes.

    sizes are the numbers of facts and of new things; calls that are alike but for new things stand once.
    """
    found = []
    for calls in calls_up_to_names(letters_in((rule[0],) + rule[1]), things, first):
        facts, fact = made_of(rule, calls)
        new = {thing: True for thing in list(calls.values()) if thing not in things}
        sizes = (len(facts), len(new))
        if (not found or sizes <= found[-1][0]) and not _follows(other, facts, fact):
            if found and sizes < found[-1][0]:
                found = []
            found.append((sizes, calls))
    return found


def _renamed(calls, things, first):
    """The calls with their new things in all orders."""
    new = sorted(list({thing: True for thing in list(calls.values()) if thing not in things}))
    found = []
    for row in _all_orders(new):
        others = {thing: row[thing - first] for thing in new}
        found.append({letter: others.get(thing, thing) for letter, thing in calls.items()})
    return found


def _pair_key(pair):
    return ([atom_key(fact) for fact in pair[0]], atom_key(pair[1]))


def parting_facts(one, other):
    """The first pair (facts, fact) that a rule of the one makes and that does not follow by the other, or None."""
    refuse_unplain(one)
    refuse_unplain(other)
    things = things_named(parts_of_rules(one.listed() + other.listed()))
    first = first_new(things)
    rows = []
    for number in _unfollowed(one, other):
        rule = one.listed()[number]
        rows.extend([(sizes, rule, calls) for sizes, calls in _failing(rule, other, things, first)])
    if not rows:
        return None
    least = min([sizes for sizes, rule, calls in rows])
    pairs = [made_of(rule, renamed) for sizes, rule, calls in rows if sizes == least
             for renamed in _renamed(calls, things, first)]
    return min(pairs, key=lambda pair: _pair_key(pair))


def spare_rules(rules):
    """The ascending list of the numbers of the rules each of which follows by all the others."""
    refuse_unplain(rules)
    return [number for number, rule in enumerate(rules.listed()) if _rule_follows(rules.without(number), rule)]


def _shortened(listed, number):
    """The rules with each atom taken from the one with a number, last ones first, without which it still follows."""
    for index in reversed(range(len(listed[number][1]))):
        head, body = listed[number]
        shorter = (head, body[:index] + body[index + 1:])
        if not loose_in_rule(shorter) and _rule_follows(Rules(listed), shorter):
            listed = listed[:number] + [shorter] + listed[number + 1:]
    return listed


def least_rules(rules):
    """The Rules that are left behind taking away needless atoms, and then needless rules."""
    refuse_unplain(rules)
    listed = rules.listed()
    for number in range(len(listed)):
        listed = _shortened(listed, number)
    for number in reversed(range(len(listed))):
        fewer = listed[:number] + listed[number + 1:]
        if _rule_follows(Rules(fewer), listed[number]):
            listed = fewer
    return Rules(listed)
