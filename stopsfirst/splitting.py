"""Whether each change can be split into changes that only stop or only start, and what tells that it cannot."""

from stopsfirst.changes import first_way, limited_table, plain_table, reached_set
from stopsfirst.cheapest import least_sums, priced, told_prices
from stopsfirst.court import least_bad_pair
from stopsfirst.grids import state_masks
from stopsfirst.prices import Prices


def plain_changes(grid):
    return plain_table(grid, [grid.running_set] * (grid.full + 1))


def split_changes(grid, plain, a, b):
    """The plain changes that stop only what runs in a alone and start only what runs in b alone."""
    return limited_table(grid, plain, a & ~b, b & ~a)


def split_plan(book, one, other):
    grid = book.grid()
    a, b = state_masks(grid, (one, other))
    way = first_way(grid, split_changes(grid, plain_changes(grid), a, b), 1 << a, 1 << b, grid.running_set)
    return None if way is None else grid.in_turn(way)


def unsplit_pair(book):
    grid = book.grid()
    plain = plain_changes(grid)
    for a in grid.running:
        for b in grid.running:
            if not reached_set(split_changes(grid, plain, a, b), 1 << a, grid.running_set) >> b & 1:
                return grid.in_turn((a, b))
    return None


def false_potential(book, *, with_waits=False):
    """Each start and each stop costs 1, so only a plan that splits the change between two states is as cheap as it.

    With waits each change that starts anything costs 1 more; a plan with one such change would have a middle.
    """
    pair = least_bad_pair(book) if with_waits else unsplit_pair(book)
    if pair is None:
        return None
    ones = [(name, 1) for name in book.services]
    prices = Prices(ones, ones, waits=ones if with_waits else ())
    grid = book.grid()
    sums = least_sums(priced(grid, plain_changes(grid), prices), grid.masks[pair[0]])
    return ((book.services,), prices, pair[0], told_prices(grid, sums))
