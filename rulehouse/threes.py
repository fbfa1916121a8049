"""What is sure, what is never, and what is open, where rules say not."""

from rulehouse.arguing import Hearing
from rulehouse.facts import facts_in_order
from rulehouse.finding import calls_by, letters_alone, patterns_of
from rulehouse.following import checked_fact
from rulehouse.turning import turning_of


def turns(rules, facts):
    """The list of sets, each behind the one ahead of it, up to the first two that are behind each other."""
    turning = turning_of(rules, facts)
    return [facts_in_order(turning.facts_of(bits)) for bits in turning.turned]


def sure_facts(rules, facts):
    """The Facts of all that is sure."""
    turning = turning_of(rules, facts)
    return facts_in_order(turning.facts_of(turning.sure))


def open_facts(rules, facts):
    """The Facts of all that is possible and not sure."""
    turning = turning_of(rules, facts)
    return facts_in_order(turning.facts_of(turning.possible & ~turning.sure))


def verdict(rules, facts, fact):
    """Whether a fact is "sure", "never" or "open"."""
    kept = checked_fact(fact)
    turning = turning_of(rules, facts)
    bit = turning.bits.get(kept, 0)
    if bit & turning.sure:
        return "sure"
    return "open" if bit & turning.possible else "never"


def _sure_steps(turning, told, barred):
    """The pairs (head, step) that tell more bits sure if just barred ones may stand, but for what is told."""
    found = []
    rows = [row for row in turning.leads if row[2] & barred == 0]
    last = None
    while told != last:
        last = told
        for row in rows:
            if row[0] & told == 0 and row[1] & told == row[1]:
                told = told | row[0]
                found.append((row[0], turning.steps[row]))
    return found


def _claims_that_tell(patterns, turning, bit):
    """The claims turn by turn, up to the one that tells a bit."""
    told = turning.held
    claims = []
    for index in range(2, len(turning.turned)):
        if index % 2 == 1:
            some = turning.turned[index - 2] & ~turning.turned[index]
            claims.append(("never", tuple(turning.facts_of(some))))
            if bit & some:
                return claims
            continue
        for head, (number, below) in _sure_steps(turning, told, turning.turned[index - 1]):
            pattern = patterns[number]
            told = told | head
            claims.append(("sure", number, letters_alone(pattern, calls_by(pattern, below))))
            if head == bit:
                return claims
    return None


def argument(rules, facts, fact):
    """An argument that tells a fact sure or never, None for an open one."""
    turning = turning_of(rules, facts)
    bit = turning.bits.get(checked_fact(fact), 0)
    if bit & ~turning.held == 0:
        return []
    return None if bit & turning.possible & ~turning.sure else _claims_that_tell(patterns_of(rules), turning, bit)


def argued(rules, facts, fact, thing):
    """What any object, as an argument, tells of a fact: "sure" or "never", None if nothing."""
    kept = checked_fact(fact)
    if not isinstance(thing, (list, tuple)):
        return None
    hearing = Hearing(rules, facts)
    for claim in thing:
        if not hearing.hear(claim):
            return None
    return hearing.told(kept)


def is_halves(rules, facts, low, high):
    """Whether low is within high, and each of both is behind of the other."""
    if not low.is_within(high):
        return False
    turning = turning_of(rules, facts)
    upper = turning.bits_of(high.listed())
    # What is behind a set is of wide, so sets with other facts are no halves.
    if upper is None:
        return False
    lower = turning.bits_of(low.listed())
    return turning.behind(lower) == upper and turning.behind(upper) == lower
