"""Stores: facts that dealings put and take, kept in an index on the pages of an engine."""

from rulehouse.disks import settled
from rulehouse.engines import Engine
from rulehouse.following import checked_fact
from rulehouse.indexes import check_width, facts_on, put_fact, take_fact
from rulehouse.nodes import ROOT, leaf_of


class Store:
    """Facts in memory, and what of them came to the disk."""

    def __init__(self, width):
        check_width(width)
        self._width = width
        self._engine = Engine({ROOT: leaf_of([])})

    def put(self, dealing, fact):
        """Puts a fact by a dealing; returns whether anything changed."""
        self._engine.check_dealing(dealing)
        return self._set_all(dealing, put_fact(self.contents(), self._width, checked_fact(fact)))

    def take(self, dealing, fact):
        """Takes a fact by a dealing; returns whether anything changed."""
        self._engine.check_dealing(dealing)
        return self._set_all(dealing, take_fact(self.contents(), self._width, checked_fact(fact)))

    def _set_all(self, dealing, changes):
        for page in changes:
            self._engine.check_free(dealing, page)
        for page, content in changes.items():
            self._engine.write(dealing, page, content)
        return len(changes) > 0

    def seal(self, dealing):
        """Ends an open dealing; what it set stays."""
        self._engine.seal(dealing)

    def drop(self, dealing):
        """Undoes the sets of an open dealing, the last ones first, and ends it."""
        self._engine.drop(dealing)

    def log_out(self, many):
        """Lets the next so many records come to the disk; returns how many did."""
        return self._engine.log_out(many)

    def page_out(self, page):
        """Lets a page come to the disk as it stands in memory."""
        self._engine.page_out(page)

    def disk(self):
        """The Disk that stands if all stops now."""
        return self._engine.disk()

    def sealed(self):
        """The ascending list of the dealings whose seal is on the disk."""
        return self._engine.sealed()

    def open_ones(self):
        """The ascending list of the open dealings."""
        return self._engine.open_ones()

    def facts(self):
        """The set of the facts in memory."""
        return facts_on(self.contents(), self._width)

    def contents(self):
        """The dict, ascending, from the pages with nodes in memory to these."""
        told = self._engine.in_memory()
        return {page: told[page] for page in told if told[page] is not None}


def facts_at(disk, width):
    """The facts of the settled contents of a disk."""
    return facts_on(settled(disk), width)
