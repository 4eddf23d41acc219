"""Shapes of costs: whether common, joined and mixed lots can cost more than both."""

from stopsfirst.basics import is_word
from stopsfirst.errors import InvalidQuestion
from stopsfirst.grids import Grid, members
from stopsfirst.lots import common, united
from stopsfirst.rulebooks import Rulebook

KINDS = ("meets", "joins", "bendable")
NEW_NAMES = "abcdefghij"


def lot_grid(cost):
    """All lots of the cost's services by their masks."""
    return Grid(cost.services, ())


def values_on(grid, cost):
    return [cost(lot) for lot in grid.lots]


def meet_fault(cost):
    return first_fault(cost, "meets")


def join_fault(cost):
    return first_fault(cost, "joins")


def first_fault(cost, kind):
    """The first pair of lots whose common or joined lot costs more than both, or None."""
    grid = lot_grid(cost)
    values = values_on(grid, cost)
    for a in grid.ordered:
        for b in grid.ordered:
            both = a & b if kind == "meets" else a | b
            if values[both] > max(values[a], values[b]):
                return grid.in_turn((a, b))
    return None


def singles(cost):
    grid = lot_grid(cost)
    values = values_on(grid, cost)
    for a in grid.ordered:
        for b in grid.ordered:
            dearer = dearer_between(grid, values, a, b)
            if dearer:
                return ("mixed", *grid.in_turn((a, b)), grid.first_of(dearer))
    return ("single", tuple([single_row(grid, values, at, name) for at, name in enumerate(cost.services)]))


def dearer_between(grid, values, a, b):
    """The masks from the common lot of two others up to their joined lot that cost more than both."""
    most = max(values[a], values[b])
    return [m for m in members(grid.above[a & b] & grid.below[a | b]) if values[m] > most]


def single_row(grid, values, at, name):
    running = [values[mask] for mask in range(grid.full + 1) if mask >> at & 1]
    resting = [values[mask] for mask in range(grid.full + 1) if not mask >> at & 1]
    return (name, min(running), min(resting))


def refuting(cost, kind):
    if not any([is_word(kind, word) for word in KINDS]):
        raise InvalidQuestion(0)
    if kind != "bendable":
        return closed_refuting(cost, kind, first_fault(cost, kind))
    for word in ("meets", "joins"):
        pair = first_fault(cost, word)
        if pair is not None:
            return closed_refuting(cost, word, pair)
    told = singles(cost)
    return None if told[0] == "single" else mixed_refuting(cost, told[1], told[2], told[3])


def closed_refuting(cost, kind, pair):
    """Two lots, and their common or joined one, which costs more than both; None if there are none."""
    if pair is None:
        return None
    grid = lot_grid(cost)
    a, b = [grid.masks[lot] for lot in pair]
    both = a & b if kind == "meets" else a | b
    return (table_book(cost.services, grid.ascending([a, b, both])), *pair)


def table_book(services, lots):
    return Rulebook(services, (("table", services, lots),))


def mixed_refuting(cost, a, b, m):
    """A bendable family in which only m is a middle of the joined lot of a and b, and of their common one.

    Neither of these costs more than a and b, so m costs more than both. The common one gets two new services, so that
    there is a lot between the two on its side as well; with that lot the family is bendable.
    """
    p, q = [(name,) for name in NEW_NAMES if name not in cost.services][:2]
    top, low = united(a, b), common(a, b)
    y = united(low, p)
    goal = united(y, q)
    family = [top, goal, m, y, united(m, y), united(m, goal), united(y, top)]
    return (table_book(united(cost.services, p + q), family), top, goal)
