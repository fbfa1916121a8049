"""All sets parted by what they have and what they lack, till each part tells one thing of its sets."""


def _best_bit(follows, taken, out, many):
    """A bit to part sets by: of a least set without what is out, but not of what is taken."""
    left = ((1 << many) - 1) & ~out
    for index in range(many):
        bit = 1 << index
        if left & bit and not taken & bit and follows[left & ~bit]:
            left = left & ~bit
    rest = left & ~taken
    return rest & -rest


def all_halves(follows, many):
    """The pair (yes, no) of lists of pairs of the numbers of what is taken, and what is out.

    follows tells, by the numbers of all sets of so many facts, whether something follows from them.
    """
    yes = []
    no = []
    left = [(0, 0)]
    every = (1 << many) - 1
    while left:
        taken, out = left.pop()
        if follows[taken]:
            yes.append((taken, out))
        elif not follows[every & ~out]:
            no.append((taken, out))
        else:
            bit = _best_bit(follows, taken, out, many)
            left.append((taken, out | bit))
            left.append((taken | bit, out))
    return yes, no


def is_parted(rows, many):
    """Whether just one of some pairs (taken, out) holds of each set of so many facts."""
    for index, (taken, out) in enumerate(rows):
        if taken & out:
            return False
        for other_taken, other_out in rows[:index]:
            if taken & other_out == 0 and out & other_taken == 0:
                return False
    parts = [1 << (many - f"{taken | out:b}".count("1")) for taken, out in rows]
    return sum(parts) == 1 << many
