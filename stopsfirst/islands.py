"""Islands: allowed states that reach each other."""

from stopsfirst.changes import change_table, reached_set
from stopsfirst.errors import InvalidQuestion, Refused
from stopsfirst.grids import joined, lot_mask, met
from stopsfirst.plans import batch_masks, first_misfit, plan_masks, start_masks
from stopsfirst.rulebooks import is_index


def islands(book, batches):
    grid = book.grid()
    found = island_masks(grid, reach_table(grid, batch_masks(book, batches)))
    return tuple([grid.in_turn(island) for island in found])


def reach_table(grid, batches):
    """For each allowed state, by its mask, the set of the states that it reaches."""
    table = change_table(grid, batches)
    return {mask: reached_set(table, 1 << mask, grid.running_set) for mask in grid.running}


def island_masks(grid, reach):
    """The islands in their order; the states of each one ascend."""
    seen = {}
    found = []
    for mask in grid.running:
        if mask not in seen:
            island = [other for other in grid.running if reach[mask] >> other & 1 and reach[other] >> mask & 1]
            found.append(island)
            for other in island:
                seen[other] = True
    return found


def direct_pairs(book, batches):
    grid = book.grid()
    reach = reach_table(grid, batch_masks(book, batches))
    found = island_masks(grid, reach)
    lower = [islands_below(reach, found, at) for at in range(len(found))]
    pairs = []
    for at, others in enumerate(lower):
        further = {island: True for other in others for island in lower[other]}
        pairs.extend([(at, other) for other in others if other not in further])
    return tuple(pairs)


def islands_below(reach, found, at):
    """The indexes of the islands that the one at an index is above."""
    reached = reach[found[at][0]]
    return [other for other, island in enumerate(found) if other != at and reached >> island[0] & 1]


def descent_kind(book, batches, first, second):
    grid = book.grid()
    reach = reach_table(grid, batch_masks(book, batches))
    found = island_masks(grid, reach)
    for at, index in enumerate((first, second)):
        if not is_index(index, found):
            raise InvalidQuestion(at)
    if second not in islands_below(reach, found, first):
        raise Refused(0)
    upper, lower = found[first], found[second]
    has_parts = all([any([low & ~high == 0 for low in lower]) for high in upper])
    is_covered = all([any([low & ~high == 0 for high in upper]) for low in lower])
    return (has_parts, is_covered)


def final_changes(book, plan, batches):
    steps = plan_masks(book, plan)
    checked = batch_masks(book, batches)
    started = start_masks(steps)
    wrong = first_misfit(started, [checked] * len(started))
    if wrong is not None:
        raise Refused(wrong)
    grid = book.grid()
    table = change_table(grid, checked)
    final = []
    for at in range(len(started)):
        back = reached_set(table, 1 << steps[at + 1], grid.running_set)
        if not back >> steps[at] & 1:
            final.append(at)
    return tuple(final)


def centers(book, batches, lot):
    grid = book.grid()
    told = lot_mask(grid, lot, 0)
    found = island_masks(grid, reach_table(grid, batch_masks(book, batches)))
    return grid.in_turn([met(island) | joined(island) & told for island in found])
