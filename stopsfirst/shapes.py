"""Shapes of costs: whether common, joined and mixed lots can cost more than both."""

from stopsfirst.basics import is_word
from stopsfirst.errors import InvalidQuestion
from stopsfirst.grids import Grid, members
from stopsfirst.rulebooks import Rulebook

KINDS = ("meets", "joins", "bendable")
NEW_NAMES = "abcdefghij"


def lot_grid(cost):
    """All lots of the cost's services by their masks."""
    return Grid(cost.services, ())


def values_on(grid, cost):
    return [cost(lot) for lot in grid.lots]


def meet_fault(cost):
    return first_fault(cost, "meets")


def join_fault(cost):
    return first_fault(cost, "joins")


def first_fault(cost, kind):
    """The first pair of lots whose common or joined lot costs more than both, or None."""
    grid = lot_grid(cost)
    values = values_on(grid, cost)
    for a in grid.ordered:
        for b in grid.ordered:
            both = a & b if kind == "meets" else a | b
            if values[both] > max(values[a], values[b]):
                return grid.in_turn((a, b))
    return None


def singles(cost):
    grid = lot_grid(cost)
    values = values_on(grid, cost)
    for a in grid.ordered:
        for b in grid.ordered:
            dearer = dearer_between(grid, values, a, b)
            if dearer:
                return ("mixed", *grid.in_turn((a, b)), grid.first_of(dearer))
    return ("single", tuple([single_row(grid, values, at, name) for at, name in enumerate(cost.services)]))


def dearer_between(grid, values, a, b):
    """The masks from the common lot of two others up to their joined lot that cost more than both."""
    most = max(values[a], values[b])
    return [m for m in members(grid.above[a & b] & grid.below[a | b]) if values[m] > most]


def single_row(grid, values, at, name):
    running = [values[mask] for mask in range(grid.full + 1) if mask >> at & 1]
    resting = [values[mask] for mask in range(grid.full + 1) if not mask >> at & 1]
    return (name, min(running), min(resting))


def refuting(cost, kind):
    if not any([is_word(kind, word) for word in KINDS]):
        raise InvalidQuestion(0)
    if kind != "bendable":
        return closed_refuting(cost, kind, first_fault(cost, kind))
    for word in ("meets", "joins"):
        pair = first_fault(cost, word)
        if pair is not None:
            return closed_refuting(cost, word, pair)
    return mixed_refuting(cost)


def closed_refuting(cost, kind, pair):
    """Two lots, and their common or joined one, which costs more than both; None if there are none."""
    if pair is None:
        return None
    grid = lot_grid(cost)
    a, b = [grid.masks[lot] for lot in pair]
    both = a & b if kind == "meets" else a | b
    return (table_book(cost.services, grid.ascending([a, b, both])), *pair)


def table_book(services, lots):
    return Rulebook(services, (("table", services, lots),))


def mixed_refuting(cost):
    """If any lot from a & b up to a | b is too dear, one within one of a, b or around one of them is, for some a, b."""
    grid = lot_grid(cost)
    values = values_on(grid, cost)
    for a in grid.ordered:
        for b in grid.ordered:
            for m in dearer_between(grid, values, a, b):
                if m & ~a == 0:
                    return book_with_two(cost.services, a, b, lower_family(grid.full, a, b, m))
                if b & ~m == 0:
                    return book_with_two(cost.services, a, b, upper_family(grid.full, a, b, m))
    return None


def book_with_two(services, a, b, family):
    """The rulebook of a family of masks with two new services, whose bits come last, and the pair a, b with these."""
    new = [name for name in NEW_NAMES if name not in services][:2]
    names = [*services, *new]
    lots = [tuple(sorted([name for at, name in enumerate(names) if mask >> at & 1])) for mask in family]
    first = tuple([name for at, name in enumerate(services) if a >> at & 1])
    second = tuple(sorted(new + [name for at, name in enumerate(services) if b >> at & 1]))
    return (table_book(names, lots), first, second)


def lower_family(full, a, b, m):
    """A family in which m is the only middle of a, and b with two new services; the bits of these come last."""
    one = full + 1
    wide = b | one | one << 1
    y = a & b | one
    return [a, wide, m, y, m | y, m | wide, y | a]


def upper_family(full, a, b, m):
    """The same turned around: with b and the new services added, the only middle is m with these."""
    whole = full | full + 1 | full + 1 << 1
    rests = lower_family(full, full & ~b, full & ~a, m ^ full)
    return [whole & ~mask for mask in rests]
