"""Objects of all kinds, for calls that are let pass any object."""

from rulehouse.disks import Disk
from rulehouse.errors import BadBody, HouseError
from rulehouse.facts import Facts
from rulehouse.houses import House
from rulehouse.locks import Locks
from rulehouse.promises import Promises
from rulehouse.rules import Rules


def odd_objects():
    """Objects that are neither names, integers, letters, atoms, bodies, rules nor trees."""
    return [
        None, True, False, "", "Not a name", "not", "A0", "a b", "x" * 13,
        {}, {"a": 1}, {1: None}, {("a",): ["a"]},
        Facts([]), Facts([("a", 1)]), Rules([]), Rules([(("a",), [])]),
        BadBody(0), HouseError(),
        [None], [True], [[]], ((),), [{}], [["a"], "a"], ("a", True), ["a", None], ["a", ["a"]],
        ("a", Facts([])), ["not", "a"], ("unlike", "a"), ("not", "a", "b"),
        House(), Disk({}, {}, []), Promises([]), Locks({"a": [("read", "x")]}), ("a", House()), [House()],
    ]


def rules_of(*rows):
    """The Rules that rows of text tell."""
    from rulehouse.texts import read_rules
    return read_rules("".join([row + "\n" for row in rows]))


def facts_of(*rows):
    """The Facts that rows of text tell."""
    from rulehouse.texts import read_facts
    return read_facts("".join([row + "\n" for row in rows]))


def kinds_of(thing):
    """The kinds of an object at every depth."""
    if isinstance(thing, (list, tuple)):
        return (type(thing).__name__, [kinds_of(part) for part in thing])
    if isinstance(thing, dict):
        return ("dict", [(kinds_of(key), kinds_of(worth)) for key, worth in thing.items()])
    return type(thing).__name__
