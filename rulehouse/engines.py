"""The engine: a store of pages at work, what of it came to the disk, and how dealings end."""

from rulehouse.contents import as_tuples, checked_contents, is_content, is_page
from rulehouse.disks import Disk
from rulehouse.errors import BadContents, BadNumber, Busy, Ended, LogBehind, NoName, NoPage, NotOpen
from rulehouse.logs import OVER, SEAL, SET, Log
from rulehouse.names import is_integer, is_name


def _check_page(page):
    if not is_page(page):
        raise NoPage(page)


class Engine:
    """Pages in memory, the records so far, and what of both came to the disk."""

    def __init__(self, first):
        self._first = checked_contents(first)
        self._log = Log(self._first)
        self._many_out = 0
        self._pages_out = {}

    def check_dealing(self, name):
        """Raises NoName for any object that is no name, Ended for a dealing that is sealed or over."""
        if not is_name(name):
            raise NoName(name)
        if self._log.is_ended(name):
            raise Ended(name)

    def check_free(self, dealing, page):
        """Raises Busy if another open dealing has set a page."""
        other = self._log.setter(page, dealing)
        if other is not None:
            raise Busy(page, other)

    def write(self, dealing, page, content):
        """Sets a page by a dealing."""
        self.check_dealing(dealing)
        _check_page(page)
        if not is_content(content):
            raise BadContents(content)
        self.check_free(dealing, page)
        self._log.add((SET, dealing, page, self._log.last_content(page), as_tuples(content)))

    def _check_open(self, name):
        if not is_name(name):
            raise NoName(name)
        if name not in self._log.going():
            raise NotOpen(name)

    def seal(self, dealing):
        """Ends an open dealing; what it set stays."""
        self._check_open(dealing)
        self._log.add((SEAL, dealing))

    def drop(self, dealing):
        """Undoes the sets of an open dealing, the last one first, and ends it."""
        self._check_open(dealing)
        back = self._log.last_back([dealing])
        while back is not None:
            self._log.add(back)
            back = self._log.last_back([dealing])
        self._log.add((OVER, dealing))

    def log_out(self, many):
        """Lets the next so many records come to the disk; returns how many did."""
        if not is_integer(many) or many < 0:
            raise BadNumber(many)
        coming = min(many, len(self._log.records) - self._many_out)
        self._many_out += coming
        return coming

    def page_out(self, page):
        """Lets a page come to the disk as it stands in memory."""
        _check_page(page)
        stamp = self._log.last_number(page)
        if stamp > self._many_out:
            raise LogBehind(page)
        self._pages_out[page] = (stamp, self._log.last_content(page))

    def content(self, page):
        """The content of a page in memory."""
        _check_page(page)
        return self._log.last_content(page)

    def in_memory(self):
        """The dict, ascending, from the pages of the first contents and of sets to their contents in memory."""
        return {page: self._log.last_content(page) for page in self._log.pages_told()}

    def open_ones(self):
        """The ascending list of the open dealings."""
        return self._log.going()

    def sealed(self):
        """The ascending list of the dealings whose seal is on the disk."""
        return sorted([record[1] for record in self._log.records[:self._many_out] if record[0] == SEAL])

    def disk(self):
        """The Disk that stands if all stops now."""
        records = self._log.records[:self._many_out]
        pages = {page: (0, self._first[page]) for page in self._first}
        for record in records:
            if record[0] == SET:
                pages.setdefault(record[2], (0, None))
        return Disk(self._first, {**pages, **self._pages_out}, records)
