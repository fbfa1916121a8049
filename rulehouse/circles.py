"""Circles: ways through nodes that lead from a node back to itself."""


def _back_to(nexts, start):
    """A shortest list of nodes from a start on, the last of which leads back to it; None if there is none."""
    ahead = {start: None}
    left = [start]
    while left:
        later = []
        for node in left:
            for other in nexts[node]:
                if other == start:
                    return _way_to(ahead, node)
                if other not in ahead:
                    ahead[other] = node
                    later.append(other)
        left = later
    return None


def _way_to(ahead, node):
    """The nodes from the start to one, each of which ahead leads to the one ahead of it."""
    found = [node]
    while ahead[found[-1]] is not None:
        found.append(ahead[found[-1]])
    return found[::-1]


def least_circle(nexts):
    """A circle of as few nodes as can be, None if there is none; nexts leads nodes to lists of the next ones."""
    best = None
    for start in nexts:
        found = _back_to(nexts, start)
        if found is not None and (best is None or len(found) < len(best)):
            best = found
    return best
