"""Climbs from a state: what can be come to by stopping first and only starting from then on."""

from stopsfirst.basics import is_sequence, without_repeats
from stopsfirst.errors import Refused
from stopsfirst.grids import between_masks, greatest_masks, state_masks
from stopsfirst.plans import batch_masks, fit_table


def tops(book, start, batches):
    grid = book.grid()
    a = state_masks(grid, (start,))[0]
    levels = end_levels(grid, a, fit_table(grid, batch_masks(book, batches)))
    return grid.ascending(greatest_masks(ends_up_to(levels, len(levels))))


def end_levels(grid, start, fitting):
    """The ends of the climbs from a state, by the least number of changes.

    Each level is a dict that has, for each end, the state before it in a climb with so few changes, or None.
    """
    levels = [{mask: None for mask in between_masks(grid, 0, start)}]
    seen = {mask: True for mask in levels[0]}
    while levels[-1]:
        further = {}
        for mask in levels[-1]:
            for above in between_masks(grid, mask, grid.full):
                if above not in seen and fitting[above & ~mask]:
                    seen[above] = True
                    further[above] = mask
        levels.append(further)
    return levels[:-1]


def ends_up_to(levels, count):
    """The ends that the first levels have."""
    ends = []
    for level in levels[:count]:
        ends.extend(list(level))
    return ends


def climb_above(book, start, goal, batches):
    grid = book.grid()
    a, b = state_masks(grid, (start, goal))
    levels = end_levels(grid, a, fit_table(grid, batch_masks(book, batches)))
    for count, level in enumerate(levels):
        for end in level:
            if b & ~end == 0:
                return grid.in_turn(climb_to(levels, count, end))
    return None


def climb_to(levels, count, end):
    """The climb with so many changes to an end of that level."""
    climb = [end]
    for at in range(count, 0, -1):
        climb.append(levels[at][climb[-1]])
    return list(reversed(climb))


def climb_plan(book, start, goal, climb):
    grid = book.grid()
    a, b = state_masks(grid, (start, goal))
    climbed = checked_climb(grid, a, b, climb)
    return grid.in_turn(without_repeats([a] + climbed[1:-1] + [b]))


def checked_climb(grid, start, goal, climb):
    """The masks of what is to be a climb from one state to above another one, whatever it starts."""
    if not is_sequence(climb) or len(climb) == 0:
        raise Refused(0)
    climbed = [grid.state_of(state) for state in climb]
    for at, mask in enumerate(climbed):
        if mask is None:
            raise Refused(at)
        if at == 0 and mask & ~start:
            raise Refused(at)
        if at > 0 and (climbed[at - 1] & ~mask or climbed[at - 1] == mask):
            raise Refused(at)
        if at == len(climbed) - 1 and goal & ~mask:
            raise Refused(at)
    return climbed
