"""Two changes of one base put together, and by what what stands differs then from both."""

from rulehouse.levels import by_levels


def merged(base, one, other):
    """The Facts of a base by both of two changes of it."""
    return (one & other) | (one - base) | (other - base)


def _word_for(fact, stands, one, other):
    """How a fact is odd that stands, or not, by both changes together; one and other are what stands by each."""
    if fact in one and fact in other:
        return "lost"
    if fact not in one and fact not in other:
        return "new"
    return "stays" if stands else "undone"


def odd_ones(rules, base, one, other):
    """The list of the pairs (fact, word) by which what stands by both changes differs from both of what stands."""
    together = by_levels(rules, merged(base, one, other))
    sides = [by_levels(rules, facts) for facts in (base, one, other)]
    expected = merged(sides[0], sides[1], sides[2])
    odd = (together - expected) | (expected - together)
    return [(fact, _word_for(fact, fact in together, sides[1], sides[2])) for fact in odd.listed()]
