"""Whether each change can be split into changes that only stop or only start, and what tells that it cannot."""

from stopsfirst.changes import first_way, plain_table, reached_set
from stopsfirst.cheapest import least_sums, priced, told_prices
from stopsfirst.court import least_bad_pair
from stopsfirst.grids import state_masks
from stopsfirst.prices import Prices


def split_plan(book, one, other):
    grid = book.grid()
    a, b = state_masks(grid, (one, other))
    way = first_way(grid, split_table(grid, a, b), 1 << a, 1 << b, grid.running_set)
    return None if way is None else grid.in_turn(way)


def split_table(grid, a, b):
    """The plain changes that stop only what runs in a alone and start only what runs in b alone."""
    inside = grid.above[a & b] & grid.below[a | b] & grid.running_set
    stops, starts = a & ~b, b & ~a
    table = [0] * (grid.full + 1)
    for mask in grid.running:
        if inside >> mask & 1:
            down = grid.below[mask] & grid.above[mask & ~stops]
            up = grid.above[mask] & grid.below[mask | starts]
            table[mask] = (down | up) & inside
    return table


def unsplit_pair(book):
    grid = book.grid()
    for a in grid.running:
        for b in grid.running:
            if not reached_set(split_table(grid, a, b), 1 << a, grid.running_set) >> b & 1:
                return grid.in_turn((a, b))
    return None


def false_potential(book, *, with_waits=False):
    """For a pair that cannot be split only the change between its states is free (with waits: waits once)."""
    pair = least_bad_pair(book) if with_waits else unsplit_pair(book)
    if pair is None:
        return None
    grid = book.grid()
    one, other = pair
    started = [name for name in other if name not in one]
    prices = Prices(
        [(name, 1) for name in book.services if name not in started],
        [(name, 1) for name in book.services if name in other or name not in one],
        waits=[(name, 1) for name in started if with_waits],
    )
    table = plain_table(grid, [grid.running_set] * (grid.full + 1))
    sums = least_sums(priced(grid, table, prices), grid.masks[one])
    return ((book.services,), prices, one, told_prices(grid, sums))
