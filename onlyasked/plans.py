"""Plans: what to ask next by what came back, so that the dearest way costs as little as can be."""

from onlyasked.errors import BadAnswers
from onlyasked.prices import Prices
from onlyasked.settling import refuse_impossible
from onlyasked.trees import can_answer, least_tree, standing_behind, tree_price, ways_through


class Plan:
    """A least tree for a standing, with the properties price, tree and asks.

    For the package it also has the program, the standing (known), rows and prices, which knows the least prices.
    """

    def __init__(self, prices, known):
        self.program = prices.program
        self.rows = prices.rows
        self.prices = prices
        self.known = known
        self.price = prices.least(known)
        self.tree = least_tree(prices, known, {})
        self.asks = self.tree[1] if self.tree[0] == "ask" else ()

    def __bool__(self):
        return bool(self.asks)

    def __eq__(self, other):
        return (isinstance(other, Plan) and self.program == other.program and self.known == other.known
                and self.rows == other.rows)

    def behind(self, answers):
        """A plan for the standing behind the first round; BadAnswers(value) for any value that cannot come."""
        if self.asks == () or not can_answer(self.program, self.known, self.asks, answers):
            raise BadAnswers(answers)
        return Plan(self.prices, standing_behind(self.program, self.known, self.asks, answers))

    def ways(self):
        """Pairs (rounds, result) for all ways through the tree, in the sequence of its branches."""
        yield from ways_through(self.tree, ())


def plan(program, known, *, rows=False):
    """A plan for a standing; BadFact, Impossible."""
    refuse_impossible(program, known.facts)
    return Plan(Prices(program, rows), known)


def shows_tree(program, known, price, value, *, rows=False):
    """Whether any value is a tree for the standing of just this price."""
    refuse_impossible(program, known.facts)
    return tree_price(Prices(program, rows), known, value, False) == price


def shows_plan(program, known, value, *, rows=False):
    """Whether any value is a least tree for the standing."""
    refuse_impossible(program, known.facts)
    return tree_price(Prices(program, rows), known, value, True) is not None
