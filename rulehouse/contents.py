"""Contents of pages, and dicts from pages to contents."""

from rulehouse.errors import BadContents
from rulehouse.names import is_integer, is_name


def is_page(thing):
    """Whether any object is a page, an integer from 0 on."""
    return is_integer(thing) and thing >= 0


def is_content(thing):
    """Whether any object is a content: None, or made of integers, names and tuples of such."""
    if thing is None:
        return True
    # A list of what is left to look through, as contents may be deeper than calls should be.
    left = [thing]
    while left:
        part = left.pop()
        if isinstance(part, (list, tuple)):
            left.extend(part)
        elif not is_integer(part) and not is_name(part):
            return False
    return True


def _has_lists(thing):
    left = [thing]
    while left:
        part = left.pop()
        if isinstance(part, list):
            return True
        if isinstance(part, tuple):
            left.extend(part)
    return False


def as_tuples(content):
    """A content with tuples for all lists in it."""
    if not _has_lists(content):
        return content
    return tuple([as_tuples(part) for part in content])


def checked_contents(contents):
    """The dict, ascending, from pages to contents that any object is: BadContents."""
    if not isinstance(contents, dict):
        raise BadContents(contents)
    found = {}
    for page, content in contents.items():
        if not is_page(page) or not is_content(content):
            raise BadContents(page)
        found[page] = as_tuples(content)
    return {page: found[page] for page in sorted(list(found))}
