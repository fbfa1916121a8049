"""What trees cost, the cheapest ones, and how the least cost hangs on one price."""

from rulehouse.cheapness import Cheapness
from rulehouse.errors import NotGiven
from rulehouse.finding import patterns_of
from rulehouse.following import checked_fact
from rulehouse.growing import grown_steps
from rulehouse.parts import as_fact, atom_key
from rulehouse.prices import check_prices
from rulehouse.ratios import lowest
from rulehouse.trees import tree_nodes


def tree_cost(facts, rules, prices, fees, thing):
    """The cost of any object that is a tree, None of any other."""
    check_prices(facts, rules, prices, fees)
    nodes = tree_nodes(patterns_of(rules), facts, thing)
    if nodes is None:
        return None
    return sum([prices[fact] if number is None else fees[number] for fact, number in nodes])


def _steps(facts, rules):
    return grown_steps(patterns_of(rules), facts.listed())[1]


def _cheapness(facts, rules, prices, fees):
    """The least costs, and of these the fewest leaves, of all facts."""
    given = {fact: (prices[fact], 1) for fact in facts.listed()}
    return Cheapness(given, _steps(facts, rules), [(fee, 0) for fee in fees], (0, 1))


def least_costs(facts, rules, prices, fees):
    """The dict from all facts that have a tree, in any order, to the least costs of their trees."""
    return {fact: told[0][0] for fact, told in _cheapness(facts, rules, prices, fees).best.items()}


def costs(facts, rules, prices, fees):
    """The dict from all facts that have a tree, in THE ORDER, to the least costs of their trees."""
    check_prices(facts, rules, prices, fees)
    found = least_costs(facts, rules, prices, fees)
    return {fact: found[fact] for fact in sorted(list(found), key=atom_key)}


def cheapest(facts, rules, prices, fees, fact):
    """The pair (cost, tree) of a tree of least cost and, of these, fewest leaves; None if there is no tree."""
    check_prices(facts, rules, prices, fees)
    kept = checked_fact(fact)
    cheapness = _cheapness(facts, rules, prices, fees)
    if kept not in cheapness.best:
        return None
    return (cheapness.best[kept][0][0], cheapness.tree(kept))


class Line:
    """How the cost of the cheapest trees of a fact goes with the price of one given fact.

    A line here is a pair (times, start): start + times * price is what some trees cost.
    """

    def __init__(self, facts, rules, prices, fees, given):
        self._steps = _steps(facts, rules)
        self._prices = {fact: prices[fact] for fact in facts.listed() if fact != given}
        self._fees = list(fees)
        self._given = given

    def at(self, fact, top, bottom):
        """The line that is least from the price top / bottom on, None if the fact has no tree."""
        given = {other: (bottom * price, 0) for other, price in self._prices.items()}
        given[self._given] = (top, 1)
        found = Cheapness(given, self._steps, [(bottom * fee, 0) for fee in self._fees], (0, 0)).best
        if fact not in found:
            return None
        cost, times = found[fact][0]
        return (times, (cost - top * times) // bottom)

    def last(self, fact):
        """The line that is least from some price on for all prices above it."""
        given = {other: (0, price) for other, price in self._prices.items()}
        given[self._given] = (1, 0)
        found = Cheapness(given, self._steps, [(0, fee) for fee in self._fees], (0, 0)).best
        return found[fact][0]

    def next_bend(self, fact, line, last):
        """The pair of the price, a pair (top, bottom), at which a line ends, and the line from there on."""
        other = last
        while True:
            top, bottom = other[1] - line[1], line[0] - other[0]
            found = self.at(fact, top, bottom)
            if found[1] * bottom + found[0] * top == line[1] * bottom + line[0] * top:
                return (top, bottom), found
            other = found


def cost_line(facts, rules, prices, fees, fact, given):
    """The list of triples (where, cost, times) by which the least cost goes with one price, None without a tree."""
    check_prices(facts, rules, prices, fees)
    kept = checked_fact(fact)
    one = as_fact(given)
    if one is None or one not in facts:
        raise NotGiven(given)
    lines = Line(facts, rules, prices, fees, one)
    line = lines.at(kept, 0, 1)
    if line is None:
        return None
    last = lines.last(kept)
    found = [((0, 1), (line[1], 1), line[0])]
    while line[0] > last[0]:
        (top, bottom), line = lines.next_bend(kept, line, last)
        found.append((lowest(top, bottom), lowest(line[1] * bottom + line[0] * top, bottom), line[0]))
    return found
