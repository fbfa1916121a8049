"""Indexes: pages that are nodes of a tree that keeps facts in order."""

from rulehouse.contents import as_tuples, is_content, is_page
from rulehouse.errors import BadWidth, NoIndex
from rulehouse.facts import Facts
from rulehouse.following import checked_fact
from rulehouse.names import is_integer
from rulehouse.nodes import facts_of_leaf, leaves_of
from rulehouse.trunks import Trunk

LEAST_WIDTH = 3


def check_width(width):
    """Raises BadWidth for any object that is no integer from 3 on."""
    if not is_integer(width) or width < LEAST_WIDTH:
        raise BadWidth(width)


def _as_contents(thing):
    """The dict from pages to contents, of tuples, that any object is, None if it is none."""
    if not isinstance(thing, dict):
        return None
    if not all([is_page(page) and is_content(content) for page, content in thing.items()]):
        return None
    return {page: as_tuples(content) for page, content in thing.items()}


def is_index(contents, width):
    """Whether any object is an index of a width."""
    check_width(width)
    found = _as_contents(contents)
    return found is not None and leaves_of(found, width) is not None


def _checked_index(contents, width):
    """The contents of an index, of tuples: BadWidth, then NoIndex."""
    check_width(width)
    found = _as_contents(contents)
    if found is None or leaves_of(found, width) is None:
        raise NoIndex(contents)
    return found


def facts_on(contents, width):
    """The set of the facts of an index."""
    found = _checked_index(contents, width)
    return Facts([fact for leaf in leaves_of(found, width) for fact in facts_of_leaf(leaf)])


def put_fact(contents, width, fact):
    """The dict, ascending, from pages to contents that make an index one with a fact more."""
    trunk = Trunk(_checked_index(contents, width), width)
    trunk.put(checked_fact(fact))
    return trunk.changes()


def take_fact(contents, width, fact):
    """The dict, ascending, from pages to contents that make an index one with a fact less."""
    trunk = Trunk(_checked_index(contents, width), width)
    trunk.take(checked_fact(fact))
    return trunk.changes()
