"""An index as it changes: nodes that run over are parted, nodes that run under are filled from those beside them."""

from rulehouse.nodes import (ROOT, bounds_of_fork, facts_of_leaf, fork_of, is_leaf, leaf_of, least_size, pages_of_fork,
                             size_of)
from rulehouse.parts import atom_key


def _parted(node):
    """The triple of a node's first half, the fact that parts both halves, and its second half."""
    at = size_of(node) // 2
    if is_leaf(node):
        facts = facts_of_leaf(node)
        return leaf_of(facts[:at]), facts[at], leaf_of(facts[at:])
    pages = pages_of_fork(node)
    bounds = bounds_of_fork(node)
    return fork_of(pages[:at], bounds[:at - 1]), bounds[at - 1], fork_of(pages[at:], bounds[at:])


def _merged(one, bound, other):
    """The node that two beside each other become, the fact between them being a bound."""
    if is_leaf(one):
        return leaf_of(facts_of_leaf(one) + facts_of_leaf(other))
    bounds = bounds_of_fork(one) + [bound] + bounds_of_fork(other)
    return fork_of(pages_of_fork(one) + pages_of_fork(other), bounds)


class Trunk:
    """The nodes of an index, and how they were at first."""

    def __init__(self, contents, width):
        self._width = width
        self._old = {page: contents[page] for page in contents if contents[page] is not None}
        self._nodes = {page: self._old[page] for page in self._old}

    def changes(self):
        """The dict, ascending, from the pages that have changed to their contents."""
        pages = sorted(list({**self._old, **self._nodes}))
        return {page: self._nodes.get(page) for page in pages if self._nodes.get(page) != self._old.get(page)}

    def _path_to(self, fact):
        """The list of the pairs (page, index of the next page in its fork) from the root on, and the leaf's page."""
        path = []
        page = ROOT
        while not is_leaf(self._nodes[page]):
            node = self._nodes[page]
            index = len([bound for bound in bounds_of_fork(node) if atom_key(bound) <= atom_key(fact)])
            path.append((page, index))
            page = pages_of_fork(node)[index]
        return path, page

    def _new_page(self):
        """The least page that had no node, and has none."""
        page = 0
        while page in self._nodes or page in self._old:
            page += 1
        return page

    def put(self, fact):
        """Puts a fact; nothing changes if it stands there."""
        path, page = self._path_to(fact)
        facts = facts_of_leaf(self._nodes[page])
        if fact not in facts:
            self._nodes[page] = leaf_of(sorted(facts + [fact], key=atom_key))
            self._part_from(path, page)

    def _part_from(self, path, page):
        """Parts a node if it has run over, and then those above it."""
        while size_of(self._nodes[page]) > self._width:
            one, bound, other = _parted(self._nodes[page])
            if page == ROOT:
                first = self._new_page()
                self._nodes[first] = one
                second = self._new_page()
                self._nodes[second] = other
                self._nodes[ROOT] = fork_of([first, second], [bound])
                return
            new = self._new_page()
            self._nodes[page] = one
            self._nodes[new] = other
            above, index = path.pop()
            pages = pages_of_fork(self._nodes[above])
            bounds = bounds_of_fork(self._nodes[above])
            self._nodes[above] = fork_of(pages[:index + 1] + [new] + pages[index + 1:],
                                         bounds[:index] + [bound] + bounds[index:])
            page = above

    def take(self, fact):
        """Takes a fact; nothing changes if it does not stand there."""
        path, page = self._path_to(fact)
        facts = facts_of_leaf(self._nodes[page])
        if fact in facts:
            self._nodes[page] = leaf_of([other for other in facts if other != fact])
            self._fill_from(path, page)

    def _fill_from(self, path, page):
        """Fills a node if it has run under, and then those above it."""
        while page != ROOT and size_of(self._nodes[page]) < least_size(self._width):
            above, index = path.pop()
            # The two pages of the fork, beside each other, that are filled up together.
            self._even_out(above, max(index - 1, 0))
            page = above
        root = self._nodes[ROOT]
        if not is_leaf(root) and size_of(root) == 1:
            last = pages_of_fork(root)[0]
            self._nodes[ROOT] = self._nodes.pop(last)

    def _even_out(self, above, index):
        """Makes one node of two beside each other, or two of even sizes if it would run over."""
        pages = pages_of_fork(self._nodes[above])
        bounds = bounds_of_fork(self._nodes[above])
        both = _merged(self._nodes[pages[index]], bounds[index], self._nodes[pages[index + 1]])
        if size_of(both) <= self._width:
            self._nodes[pages[index]] = both
            self._nodes.pop(pages[index + 1])
            self._nodes[above] = fork_of(pages[:index + 1] + pages[index + 2:], bounds[:index] + bounds[index + 1:])
            return
        one, bound, other = _parted(both)
        self._nodes[pages[index]] = one
        self._nodes[pages[index + 1]] = other
        self._nodes[above] = fork_of(pages, bounds[:index] + [bound] + bounds[index + 1:])
