"""Logs: records of what dealings set and undo, which fit those ahead of them, and what they make of pages."""

from rulehouse.contents import as_tuples, is_content, is_page
from rulehouse.names import is_name

SET = "set"
BACK = "back"
SEAL = "seal"
OVER = "over"


def as_record(thing):
    """The record that any object is, of tuples, None if it is none."""
    if not isinstance(thing, (list, tuple)) or len(thing) == 0 or not isinstance(thing[0], str):
        return None
    if thing[0] == SET and len(thing) == 5:
        is_one = is_name(thing[1]) and is_page(thing[2]) and is_content(thing[3]) and is_content(thing[4])
    elif thing[0] == BACK and len(thing) == 4:
        is_one = is_page(thing[1]) and is_page(thing[2]) and is_content(thing[3])
    else:
        is_one = thing[0] in (SEAL, OVER) and len(thing) == 2 and is_name(thing[1])
    return tuple([as_tuples(part) for part in thing]) if is_one else None


class Dealing:
    """A dealing that is open: its sets that are not undone, and what its pages were ahead of it."""

    def __init__(self):
        self.sets = []
        self.firsts = {}
        self.is_undoing = False


class Log:
    """Records, one behind another, and what they make of pages; pages and records are numbered from 0 and 1 on."""

    def __init__(self, first):
        self.records = []
        self._told = {page: [(0, first[page])] for page in first}
        self._dealings = {}
        self._ended = {}

    def content_at(self, page, number):
        """What so many records make of a page."""
        found = None
        for at, content in self._told.get(page, []):
            if at <= number:
                found = content
        return found

    def last_content(self, page):
        """What all records make of a page."""
        return self.content_at(page, len(self.records))

    def last_number(self, page):
        """The number of the last record of a page, 0 without any."""
        return self._told[page][-1][0] if page in self._told else 0

    def pages_told(self):
        """The ascending list of the pages that the first contents or sets have."""
        return sorted(list(self._told))

    def is_ended(self, name):
        """Whether a dealing is sealed or over."""
        return name in self._ended

    def going(self):
        """The ascending list of the dealings that are open."""
        return sorted(list(self._dealings))

    def setter(self, page, name):
        """The open dealing, other than one, that has set a page, None if none has."""
        for other in self._dealings:
            if other != name and page in self._dealings[other].firsts:
                return other
        return None

    def is_undone(self, name):
        """Whether all sets of an open dealing are undone."""
        return not self._dealings[name].sets

    def last_back(self, names):
        """The record that undoes the last set of some open dealings, None if all are undone."""
        indexes = [self._dealings[name].sets[-1] for name in names if self._dealings[name].sets]
        if not indexes:
            return None
        index = max(indexes)
        return (BACK, index, self.records[index][2], self.records[index][3])

    def before_dealings(self, page):
        """The pair of whether an open dealing has set a page, and its content ahead of its first set."""
        for dealing in list(self._dealings.values()):
            if page in dealing.firsts:
                return True, dealing.firsts[page]
        return False, None

    def fits(self, record):
        """Whether a record fits those that are there."""
        word = record[0]
        if word == SET:
            return self._fits_set(record)
        if word == BACK:
            return record in [self.last_back([name]) for name in self._dealings]
        if record[1] not in self._dealings:
            return False
        dealing = self._dealings[record[1]]
        return not dealing.is_undoing if word == SEAL else not dealing.sets

    def _fits_set(self, record):
        word, name, page, before, after = record
        if name in self._ended or (name in self._dealings and self._dealings[name].is_undoing):
            return False
        return before == self.last_content(page) and self.setter(page, name) is None

    def add(self, record):
        """Puts a record that fits behind those that are there."""
        if record[0] == SET:
            dealing = self._dealings.setdefault(record[1], Dealing())
            dealing.sets.append(len(self.records))
            dealing.firsts.setdefault(record[2], record[3])
            self._put(record[2], record[4])
        elif record[0] == BACK:
            dealing = self._dealings[self.records[record[1]][1]]
            dealing.sets.pop()
            dealing.is_undoing = True
            self._put(record[2], record[3])
        else:
            self._dealings.pop(record[1])
            self._ended[record[1]] = True
        self.records.append(record)

    def _put(self, page, content):
        self._told.setdefault(page, []).append((len(self.records) + 1, content))


def log_of(first, records):
    """The Log of first contents and of records that fit."""
    log = Log(first)
    for record in records:
        log.add(record)
    return log
