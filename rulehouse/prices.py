"""Prices of given facts and fees of rules, looked through."""

from rulehouse.errors import BadFees, BadPrices
from rulehouse.names import is_integer
from rulehouse.parts import as_fact
from rulehouse.rules import refuse_nots


def is_price(thing):
    """Whether any object is an integer from 0 on."""
    return is_integer(thing) and thing >= 0


def odd_key(given, thing, is_value):
    """The first key of a dict that is no given fact or whose value is none, else the first given fact that lacks.

    It is told in a list, [] if there is none; a thing that is no dict is told itself.
    """
    if not isinstance(thing, dict):
        return [thing]
    for key, value in thing.items():
        fact = as_fact(key)
        if fact is None or fact not in given or not is_value(value):
            return [key]
    return [fact for fact in given.listed() if fact not in thing][:1]


def check_prices(facts, rules, prices, fees):
    """Raises HasNot, then BadPrices, then BadFees."""
    refuse_nots(rules)
    odd = odd_key(facts, prices, lambda value: is_price(value))
    if odd:
        raise BadPrices(odd[0])
    if not isinstance(fees, (list, tuple)):
        raise BadFees(0)
    for index, fee in enumerate(fees):
        if not is_price(fee) or index >= len(rules):
            raise BadFees(index)
    if len(fees) < len(rules):
        raise BadFees(len(fees))
