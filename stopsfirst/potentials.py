"""Potentials: numbers for states, which show that no plan is cheaper."""

from stopsfirst.basics import is_tuple_of
from stopsfirst.changes import goes_between, is_way, told_integers, told_masks
from stopsfirst.cheapest import Market, cheapest_plan, least_prices


def is_potential(book, batches, prices, start, value):
    return holds_for(Market(book, batches, prices, (start,), False), value)


def is_plain_potential(book, batches, prices, start, value):
    return holds_for(Market(book, batches, prices, (start,), True), value)


def holds_for(market, value):
    """Whether any value is a potential for the first state and the changes of a market."""
    told = told_integers(market.field, value)
    if told is None or told.get(market.ends[0]) != 0:
        return False
    for mask in told:
        prices = market.prices[mask]
        if not all([other in told and told[other] <= told[mask] + prices[other] for other in prices]):
            return False
    return True


def cheapest_evidence(book, batches, prices, start, goal):
    return (cheapest_plan(book, batches, prices, start, goal), least_prices(book, batches, prices, start))


def is_cheapest_evidence(book, batches, prices, start, goal, value):
    market = Market(book, batches, prices, (start, goal), False)
    if not is_tuple_of(value, 2) or not holds_for(market, value[1]):
        return False
    told = told_integers(market.field, value[1])
    if value[0] is None:
        return market.ends[1] not in told
    masks = told_masks(market.field, value[0])
    if masks is None or not goes_between(market.ends, masks) or not is_way(market.leads, masks):
        return False
    return told.get(market.ends[1]) == prices.of_plan(value[0])
