"""Which states a plan leads to, with how few changes, and what shows that no plan does."""

from stopsfirst.basics import is_number, is_sequence, is_tuple_of
from stopsfirst.grids import state_masks
from stopsfirst.plans import batch_masks, fit_table


def distances(book, start, batches, *, stops=False):
    grid = book.grid()
    a = state_masks(grid, (start,))[0]
    ways = shortest_ways(grid, a, fit_table(grid, batch_masks(book, batches)), stops)
    return tuple([(grid.lots[mask], ways[mask][0]) for mask in grid.running if mask in ways])


def shortest_plan(book, start, goal, batches, *, stops=False):
    grid = book.grid()
    a, b = state_masks(grid, (start, goal))
    ways = shortest_ways(grid, a, fit_table(grid, batch_masks(book, batches)), stops)
    if b not in ways:
        return None
    way = [b]
    while way[-1] != a:
        way.append(ways[way[-1]][1])
    return grid.in_turn(list(reversed(way)))


def shortest_ways(grid, start, fitting, stops):
    """For each state that is reached the least number of changes that count, and the state before it.

    With `stops` only changes that stop something count; so all that is reached by others is put in first.
    """
    ways = {start: (0, None)}
    level = [start]
    number = 0
    while level:
        if stops:
            level = with_free_changes(grid, fitting, ways, level)
        number += 1
        further = []
        for mask in level:
            for other in grid.running:
                if other not in ways and fitting[other & ~mask]:
                    ways[other] = (number, mask)
                    further.append(other)
        level = further
    return ways


def with_free_changes(grid, fitting, ways, level):
    """The states of a level, and those that they reach by changes that stop nothing; `ways` is filled in."""
    found = list(level)
    at = 0
    while at < len(found):
        mask = found[at]
        for other in grid.running:
            if other not in ways and mask & ~other == 0 and fitting[other & ~mask]:
                ways[other] = (ways[mask][0], mask)
                found.append(other)
        at += 1
    return found


def shows_unreached(book, start, goal, batches, value):
    grid = book.grid()
    a, b = state_masks(grid, (start, goal))
    fitting = fit_table(grid, batch_masks(book, batches))
    told = told_states(grid, value)
    if told is None or a not in told or b in told:
        return False
    missing = [mask for mask in grid.running if mask not in told]
    for mask in told:
        for other in missing:
            if fitting[other & ~mask]:
                return False
    return True


def told_states(grid, value):
    """A dict with the masks of the states of a sequence, or None if any value is no sequence of allowed states."""
    if not is_sequence(value):
        return None
    masks = {grid.state_of(state): True for state in value}
    return None if None in masks else masks


def shows_far(book, start, goal, number, batches, value, *, stops=False):
    grid = book.grid()
    a, b = state_masks(grid, (start, goal))
    fitting = fit_table(grid, batch_masks(book, batches))
    told = told_numbers(grid, value)
    if told is None or told.get(a) != 0 or told.get(b, number) < number:
        return False
    for mask in told:
        for other in grid.running:
            most = told[mask] if stops and mask & ~other == 0 else told[mask] + 1
            if fitting[other & ~mask] and told.get(other, most + 1) > most:
                return False
    return True


def told_numbers(grid, value):
    """A dict with the number of each state, or None if any value is no sequence of pairs of unlike states."""
    if not is_sequence(value):
        return None
    numbers = {}
    for pair in value:
        if not is_tuple_of(pair, 2) or not is_number(pair[1]):
            return None
        mask = grid.state_of(pair[0])
        if mask is None or mask in numbers:
            return None
        numbers[mask] = pair[1]
    return numbers
