"""Nodes of index trees: leaves of facts, and forks of pages with facts between them."""

from rulehouse.contents import is_page
from rulehouse.parts import as_fact, atom_key

LEAF = "leaf"
FORK = "fork"
ROOT = 0


def _is_leaf(content):
    """Whether a content, of tuples, is a leaf."""
    facts = [as_fact(part) for part in content[1:]]
    if content[:1] != (LEAF,) or None in facts:
        return False
    keys = [atom_key(fact) for fact in facts]
    return all([one < other for one, other in zip(keys, keys[1:])])


def _is_fork(content):
    """Whether a content, of tuples, is a fork."""
    if content[:1] != (FORK,) or len(content) < 2 or len(content) % 2 == 1:
        return False
    return all([is_page(page) for page in content[1::2]]) and None not in [as_fact(part) for part in content[2::2]]


def is_node(content):
    """Whether a content, of tuples, is a node."""
    return isinstance(content, tuple) and (_is_leaf(content) or _is_fork(content))


def is_leaf(node):
    """Whether a node is a leaf."""
    return node[0] == LEAF


def facts_of_leaf(node):
    """The list of the facts of a leaf."""
    return list(node[1:])


def pages_of_fork(node):
    """The list of the pages to which a fork leads."""
    return list(node[1::2])


def bounds_of_fork(node):
    """The list of the facts between the pages of a fork."""
    return list(node[2::2])


def leaf_of(facts):
    """The leaf of some facts."""
    return (LEAF,) + tuple(facts)


def fork_of(pages, bounds):
    """The fork of some pages, with facts between them."""
    found = [FORK, pages[0]]
    for bound, page in zip(bounds, pages[1:]):
        found.append(bound)
        found.append(page)
    return tuple(found)


def least_size(width):
    """How many facts a leaf, and pages a fork, must have that is not the root."""
    return (width + 1) // 2


def size_of(node):
    """How many facts a leaf has, or pages a fork."""
    return len(node) - 1 if is_leaf(node) else len(node) // 2


def _is_size_right(node, page, width):
    least = least_size(width)
    if page == ROOT:
        least = 0 if is_leaf(node) else 2
    return least <= size_of(node) <= width


def _is_between(facts, low, high):
    """Whether ascending facts lie between keys, the lower one, where there are such, being let."""
    if not facts:
        return True
    return (low is None or low <= atom_key(facts[0])) and (high is None or atom_key(facts[-1]) < high)


def _below(node, low, high):
    """The triples (page, low, high) of the pages to which a fork between two keys leads."""
    keys = [atom_key(bound) for bound in bounds_of_fork(node)]
    lows = [low] + [key if low is None else max(low, key) for key in keys]
    highs = [key if high is None else min(high, key) for key in keys] + [high]
    return list(zip(pages_of_fork(node), lows, highs))


def leaves_of(contents, width):
    """The list of the leaves of contents, of tuples, that are an index of a width, in order; None of others."""
    level = [(ROOT, None, None)]
    seen = {ROOT: True}
    while True:
        nodes = [contents.get(page) for page, low, high in level]
        if not all([is_node(node) for node in nodes]) or len({node[0]: True for node in nodes}) > 1:
            return None
        if not all([_is_size_right(node, place[0], width) for node, place in zip(nodes, level)]):
            return None
        if is_leaf(nodes[0]):
            break
        below = [place for node, (page, low, high) in zip(nodes, level) for place in _below(node, low, high)]
        for page, low, high in below:
            if page in seen:
                return None
            seen[page] = True
        level = below
    if not all([_is_between(facts_of_leaf(node), place[1], place[2]) for node, place in zip(nodes, level)]):
        return None
    if not all([page in seen or content is None for page, content in contents.items()]):
        return None
    return nodes
