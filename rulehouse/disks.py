"""Disks: what stands of pages and log when all stops, and how to come back from there."""

from rulehouse.contents import as_tuples, checked_contents, is_content, is_page
from rulehouse.errors import BadPage, BadRecord, BadWrite
from rulehouse.logs import OVER, Log, as_record, log_of
from rulehouse.names import is_integer


def _checked_log(first, log):
    """The Log of the records that any object lists: BadRecord."""
    if not isinstance(log, (list, tuple)):
        raise BadRecord(0)
    found = Log(first)
    for index, thing in enumerate(log):
        record = as_record(thing)
        if record is None or not found.fits(record):
            raise BadRecord(index)
        found.add(record)
    return found


def _as_pair(log, page, thing):
    """The pair (stamp, content) that any object is and that a page can have, None if it is none."""
    if not isinstance(thing, (list, tuple)) or len(thing) != 2:
        return None
    stamp, content = thing
    if not is_integer(stamp) or not 0 <= stamp <= len(log.records) or not is_content(content):
        return None
    return (stamp, as_tuples(content)) if log.content_at(page, stamp) == as_tuples(content) else None


def _checked_pages(log, pages):
    """The dict, ascending, from pages to pairs that any object is: BadPage."""
    if not isinstance(pages, dict):
        raise BadPage(pages)
    found = {}
    for page, thing in pages.items():
        pair = _as_pair(log, page, thing) if is_page(page) else None
        if pair is None:
            raise BadPage(page)
        found[page] = pair
    for page in log.pages_told():
        if page not in found:
            raise BadPage(page)
    return {page: found[page] for page in sorted(list(found))}


class Disk:
    """First contents, pages with their stamps, and the log, as they stand when all stops."""

    def __init__(self, first, pages, log):
        self._first = checked_contents(first)
        found = _checked_log(self._first, log)
        self._pages = _checked_pages(found, pages)
        self._logged = tuple(found.records)

    def first(self):
        """The dict, ascending, from pages to first contents."""
        return {page: self._first[page] for page in self._first}

    def pages(self):
        """The dict, ascending, from pages to pairs (stamp, content)."""
        return {page: self._pages[page] for page in self._pages}

    def log(self):
        """The list of the records."""
        return list(self._logged)

    def __eq__(self, other):
        return (isinstance(other, Disk) and self._first == other._first and self._pages == other._pages
                and self._logged == other._logged)


def settled(disk):
    """The dict, ascending, from all pages to the contents that the sealed dealings made."""
    log = log_of(disk.first(), disk.log())
    found = {}
    for page in disk.pages():
        is_set, content = log.before_dealings(page)
        found[page] = content if is_set else log.last_content(page)
    return found


def come_back(disk):
    """The list of the writes that bring a disk back."""
    log = log_of(disk.first(), disk.log())
    writes = []
    for page, (stamp, content) in disk.pages().items():
        if stamp < log.last_number(page):
            writes.append(("page", page, log.last_number(page), log.last_content(page)))
    for name in log.going():
        if log.is_undone(name):
            writes.extend(_ending(log, name))
    back = log.last_back(log.going())
    while back is not None:
        name = log.records[back[1]][1]
        log.add(back)
        writes.append(("log", back))
        writes.append(("page", back[2], len(log.records), back[3]))
        if log.is_undone(name):
            writes.extend(_ending(log, name))
        back = log.last_back(log.going())
    return writes


def _ending(log, name):
    """The writes that end a dealing all of whose sets are undone; the log goes along."""
    log.add((OVER, name))
    return [("log", (OVER, name))]


def _write_to(log, pages, thing):
    """Does a write on a log and pages; returns whether any object is one that can be done there."""
    if not isinstance(thing, (list, tuple)) or len(thing) == 0 or not isinstance(thing[0], str):
        return False
    if thing[0] == "page" and len(thing) == 4 and is_page(thing[1]):
        pair = _as_pair(log, thing[1], thing[2:])
        if pair is not None:
            pages[thing[1]] = pair
        return pair is not None
    record = as_record(thing[1]) if thing[0] == "log" and len(thing) == 2 else None
    if record is None or not log.fits(record) or (len(record) > 2 and record[2] not in pages):
        return False
    log.add(record)
    return True


def after(disk, writes):
    """The disk behind a list of writes."""
    if not isinstance(writes, (list, tuple)):
        raise BadWrite(0)
    log = log_of(disk.first(), disk.log())
    pages = disk.pages()
    for index, thing in enumerate(writes):
        if not _write_to(log, pages, thing):
            raise BadWrite(index)
    return Disk(disk.first(), pages, log.records)
