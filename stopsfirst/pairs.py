"""What stands between two lots, and the middles of a pair of allowed states."""

from stopsfirst.grids import between_masks, greatest_masks, least_masks, lot_mask, state_masks


def between(book, low, high):
    grid = book.grid()
    return grid.ascending(told_between(grid, low, high))


def least_between(book, low, high):
    grid = book.grid()
    return grid.ascending(least_masks(told_between(grid, low, high)))


def greatest_between(book, low, high):
    grid = book.grid()
    return grid.ascending(greatest_masks(told_between(grid, low, high)))


def told_between(grid, low, high):
    bottom = lot_mask(grid, low, 0)
    top = lot_mask(grid, high, 1)
    return between_masks(grid, bottom, top)


def middles(book, first, second):
    grid = book.grid()
    a, b = state_masks(grid, (first, second))
    return grid.ascending([a & b | part for part in middle_parts(grid, a, b)])


def upper_middles(book, first, second):
    grid = book.grid()
    a, b = state_masks(grid, (first, second))
    return grid.ascending([b | part for part in middle_parts(grid, a, b)])


def middle_parts(grid, a, b):
    """The parts of A - B that give a middle, with A & B; with B they give an upper middle."""
    allowed = grid.allowed
    return [part for part in grid.mask_parts[a & ~b] if allowed[a & b | part] and allowed[b | part]]


def cut_down(book, first, second):
    grid = book.grid()
    a, b = state_masks(grid, (first, second))
    return grid.first_of(least_masks(between_masks(grid, a & b, a)))


def built_up(book, first, second):
    grid = book.grid()
    a, b = state_masks(grid, (first, second))
    return grid.first_of(greatest_masks(between_masks(grid, b, a | b)))
