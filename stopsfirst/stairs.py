"""The tops of climbs with few changes, and what they tell of bendable rulebooks."""

from stopsfirst.basics import is_sequence
from stopsfirst.climbs import climb_above, climb_plan, end_levels, ends_up_to, tops
from stopsfirst.court import is_bendable
from stopsfirst.errors import NotBendable
from stopsfirst.grids import greatest_masks, state_masks, within_one
from stopsfirst.plans import batch_masks, fit_table
from stopsfirst.reach import shortest_ways, told_states


def beyond_tops(book, start, batches):
    grid = book.grid()
    a = state_masks(grid, (start,))[0]
    fitting = fit_table(grid, batch_masks(book, batches))
    levels = end_levels(grid, a, fitting)
    greatest = greatest_masks(ends_up_to(levels, len(levels)))
    reached = shortest_ways(grid, a, fitting, False)
    return grid.ascending([mask for mask in reached if not within_one(mask, greatest)])


def reach_answer(book, start, goal, batches):
    climb = climb_above(book, start, goal, batches)
    if not is_bendable(book):
        raise NotBendable()
    if climb is None:
        return ("tops", tops(book, start, batches))
    return ("plan", climb_plan(book, start, goal, climb))


def shows_outside(book, start, goal, batches, value):
    grid = book.grid()
    a, b = state_masks(grid, (start, goal))
    fitting = fit_table(grid, batch_masks(book, batches))
    told = told_states(grid, value)
    if told is None:
        return False
    covered = covered_by(grid, told)
    return covered[a] and not covered[b] and does_follow(grid, fitting, covered, covered)


def covered_by(grid, told):
    """For each mask whether it is a part of one of the states that a dict has."""
    covered = [mask in told for mask in range(grid.full + 1)]
    for mask in range(grid.full, -1, -1):
        if covered[mask]:
            for part in grid.mask_parts[mask]:
                covered[part] = True
    return covered


def does_follow(grid, fitting, before, behind):
    """Whether states follow other ones; both are told by what they cover."""
    for mask in grid.running:
        if behind[mask]:
            continue
        for part in grid.mask_parts[mask]:
            if grid.allowed[part] and before[part] and fitting[mask & ~part]:
                return False
    return True


def stairs(book, start, batches):
    grid = book.grid()
    a = state_masks(grid, (start,))[0]
    levels = end_levels(grid, a, fit_table(grid, batch_masks(book, batches)))
    last = greatest_masks(ends_up_to(levels, len(levels)))
    entries = []
    for count in range(1, len(levels) + 1):
        entry = greatest_masks(ends_up_to(levels, count))
        entries.append(grid.ascending(entry))
        if entry == last:
            break
    return tuple(entries)


def shows_steps(book, start, goal, batches, value):
    grid = book.grid()
    a, b = state_masks(grid, (start, goal))
    fitting = fit_table(grid, batch_masks(book, batches))
    if not is_sequence(value) or len(value) == 0:
        return False
    told = [told_states(grid, states) for states in value]
    if None in told:
        return False
    covers = [covered_by(grid, states) for states in told]
    if not covers[0][a] or any([covered[b] for covered in covers]):
        return False
    for at in range(1, len(covers)):
        if not does_follow(grid, fitting, covers[at - 1], covers[at]):
            return False
    return True
