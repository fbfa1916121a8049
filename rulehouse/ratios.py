"""Fractions, told as pairs (top, bottom)."""

from math import gcd

from rulehouse.names import is_integer


def lowest(top, bottom):
    """The fraction in lowest terms; bottom is above 0."""
    common = gcd(top, bottom)
    return (top // common, bottom // common)


def as_fraction(thing):
    """The pair (top, bottom) that any object is as a fraction, None if it is none."""
    if not isinstance(thing, (list, tuple)) or len(thing) != 2:
        return None
    if not is_integer(thing[0]) or not is_integer(thing[1]) or thing[1] <= 0:
        return None
    return (thing[0], thing[1])
