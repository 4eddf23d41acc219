"""Whether a rulebook is bendable, and what is wrong where it is not."""

from stopsfirst.grids import between_masks, greatest_masks, joined, least_masks, lot_mask, met, state_masks
from stopsfirst.lots import less
from stopsfirst.pairs import built_up, cut_down, middles


def is_bendable(book, *, low=(), high=None):
    grid = book.grid()
    inside = told_inside(grid, low, high)
    for a in inside:
        for b in inside:
            if not has_middle(grid, a, b):
                return False
    return True


def told_inside(grid, low, high):
    """The allowed states between two bounds that are passed by keyword."""
    bottom = lot_mask(grid, low, 0)
    top = grid.full if high is None else lot_mask(grid, high, 1)
    return between_masks(grid, bottom, top)


def has_middle(grid, a, b):
    """The greatest parts come first, since A itself is a middle wherever A | B is allowed."""
    rest = a & b
    for part in reversed(grid.mask_parts[a & ~b]):
        if grid.allowed[b | part] and grid.allowed[rest | part]:
            return True
    return False


def bad_pairs(book, *, low=(), high=None):
    grid = book.grid()
    inside = told_inside(grid, low, high)
    return told_pairs(grid, [(a, b) for a in inside for b in inside if not has_middle(grid, a, b)])


def told_pairs(grid, pairs):
    return tuple(sorted([(grid.lots[a], grid.lots[b]) for a, b in pairs]))


def least_bad_pair(book):
    """The bad pairs ascend, so the first of the nearest ones is found first."""
    return min(bad_pairs(book), key=gap_of, default=None)


def gap_of(pair):
    """How many services run in just one of two states."""
    return len(less(pair[0], pair[1])) + len(less(pair[1], pair[0]))


def is_locked(book, first, second):
    grid = book.grid()
    a, b = state_masks(grid, (first, second))
    return is_locked_change(grid, a, b)


def is_locked_change(grid, a, b):
    """Most changes are settled by A & B or A | B alone; if A is within B, A & B is A, so that it is allowed."""
    if grid.allowed[a & b] or grid.allowed[a | b]:
        return False
    return between_masks(grid, a & b, a) == [a] and between_masks(grid, b, a | b) == [b]


def locked_changes(book, *, low=(), high=None):
    grid = book.grid()
    inside = told_inside(grid, low, high)
    return told_pairs(grid, [(a, b) for a in inside for b in inside if is_locked_change(grid, a, b)])


def locked_within(book, first, second):
    if middles(book, first, second) != ():
        return None
    one = cut_down(book, first, second)
    return (one, built_up(book, one, second))


def bad_cuts(book, lot):
    grid = book.grid()
    inside = between_masks(grid, 0, lot_mask(grid, lot, 0))
    return told_pairs(grid, [(q, c) for q in greatest_masks(inside) for c in inside if not grid.allowed[q & c]])


def bad_joins(book, lot):
    grid = book.grid()
    around = between_masks(grid, lot_mask(grid, lot, 0), grid.full)
    return told_pairs(grid, [(p, c) for p in least_masks(around) for c in around if not grid.allowed[p | c]])


def core(book, lot):
    grid = book.grid()
    greatest = greatest_masks(between_masks(grid, 0, lot_mask(grid, lot, 0)))
    return grid.lots[met(greatest)] if greatest else None


def hull(book, lot):
    grid = book.grid()
    least = least_masks(between_masks(grid, lot_mask(grid, lot, 0), grid.full))
    return grid.lots[joined(least)] if least else None
