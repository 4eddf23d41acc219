"""Evidence that a rulebook is bendable, or that it is not."""

from stopsfirst.basics import is_tuple_of, is_word
from stopsfirst.court import is_bendable, is_locked_change, least_bad_pair
from stopsfirst.errors import InvalidQuestion
from stopsfirst.grids import between_masks, state_masks


def verdict(book):
    if not is_bendable(book):
        return ("locked", least_bad_pair(book))
    grid = book.grid()
    return ("steps", tuple([told_row(grid, a, b) for a, b in pairs_to_step(grid)]))


def pairs_to_step(grid):
    """The pairs that a step table has a row for, ascending."""
    return [(a, b) for a in grid.running for b in grid.running if a & ~b]


def told_row(grid, a, b):
    """The row of a pair of states that has a middle."""
    step = a
    if not grid.allowed[a | b]:
        step = grid.masks[grid.first_of([x for x in between_masks(grid, a & b, a) if x != a])]
    return grid.in_turn((a, b, step))


def is_steps(book, value):
    return step_table(book.grid(), value) is not None


def step_table(grid, value):
    """The next state for each pair of states by their masks, or None if any value is no step table."""
    if not isinstance(value, tuple):
        return None
    steps = {}
    for row in value:
        if not is_tuple_of(row, 3):
            return None
        a, b, x = [grid.state_of(lot) for lot in row]
        if a is None or b is None or x is None or (a, b) in steps or not is_step(grid, a, b, x):
            return None
        steps[(a, b)] = x
    return steps if len(steps) == len(pairs_to_step(grid)) else None


def is_step(grid, a, b, x):
    """Whether x, an allowed state, may stand in the row of the states a and b."""
    if a & ~b == 0 or x & ~a or (a & b) & ~x:
        return False
    return x != a or grid.allowed[a | b]


def is_verdict(book, value):
    if not is_tuple_of(value, 2):
        return False
    if is_word(value[0], "steps"):
        return is_steps(book, value[1])
    return is_word(value[0], "locked") and is_locked_pair(book.grid(), value[1])


def is_locked_pair(grid, value):
    if not is_tuple_of(value, 2):
        return False
    a = grid.state_of(value[0])
    b = grid.state_of(value[1])
    return a is not None and b is not None and is_locked_change(grid, a, b)


def follow(book, rows, first, second):
    grid = book.grid()
    steps = step_table(grid, rows)
    if steps is None:
        raise InvalidQuestion(0)
    a, b = state_masks(grid, (first, second))
    way = [a]
    while way[-1] & ~b and steps[(way[-1], b)] != way[-1]:
        way.append(steps[(way[-1], b)])
    return grid.in_turn(way)
