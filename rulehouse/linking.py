"""Links that lead from relation to relation, some of them strictly downwards: rings of them, and levels."""


def _shortest(links, start, end):
    """The list of as few links as can be from one relation to another, None if there is none."""
    ways = {start: []}
    left = [start]
    while left and end not in ways:
        later = []
        for link, (one, other, is_strict) in links.items():
            if one in left and other not in ways:
                ways[other] = ways[one] + [link]
                later.append(other)
        left = later
    return ways.get(end)


def strict_ring(links):
    """A ring of as few links as can be with a strict one, None if there is none.

    links leads each link to a triple (from, to, whether it is strict).
    """
    best = None
    for link, (one, other, is_strict) in links.items():
        way = _shortest(links, other, one) if is_strict else None
        if way is not None and (best is None or len(way) + 1 < len(best)):
            best = [link] + way
    return best


def is_strict_ring(told):
    """Whether triples (from, to, whether strict) lead on to one another, round, one of them strict."""
    for ahead, link in zip(told[-1:] + told[:-1], told):
        if ahead[1] != link[0]:
            return False
    return any([link[2] for link in told])


def _raised(found, links):
    """The levels behind one more look at all links."""
    more = dict(found)
    for one, other, is_strict in list(links.values()):
        more[one] = max(more[one], more[other] + (1 if is_strict else 0))
    return more


def least_levels(links, relations):
    """The dict from relations, ascending, to the least levels that go along with links without strict rings."""
    found = {relation: 0 for relation in sorted(relations)}
    more = _raised(found, links)
    while more != found:
        found = more
        more = _raised(found, links)
    return found
