"""Looking for climbs of a plan, bendable or not."""

from stopsfirst.basics import is_sequence
from stopsfirst.bending import Bent
from stopsfirst.grids import between_masks
from stopsfirst.plans import batch_masks, fit_table, plan_masks, start_masks


def find_climb(book, plan, *, keep_first=False, keep_last=False):
    """The layers are worked out from the end, so that each first choice can be followed up to the end."""
    steps = plan_masks(book, plan)
    grid = book.grid()
    hopeful = hopeful_layers(grid, steps, keep_last)
    choices = [mask for mask in first_layer(grid, steps, keep_first) if mask in hopeful[0]]
    climb = []
    for at, started in enumerate(start_masks(steps) + [0]):
        if not choices:
            return None
        climb.append(grid.first_of(choices))
        if at + 1 < len(steps):
            above = states_above(grid, grid.masks[climb[-1]], started)
            choices = [mask for mask in above if mask in hopeful[at + 1]]
    return Bent(book, plan, climb)


def hopeful_layers(grid, steps, keep_last):
    """For each entry of a climb, as dicts, the states from which the climb can be brought to its end."""
    layers = [masks_as_keys(last_layer(grid, steps, keep_last))]
    for started in reversed(start_masks(steps)):
        below = {}
        for mask in layers[-1]:
            for part in grid.mask_parts[mask & started]:
                if grid.allowed[mask & ~part]:
                    below[mask & ~part] = True
        layers.append(below)
    return list(reversed(layers))


def masks_as_keys(masks):
    return {mask: True for mask in masks}


def first_layer(grid, steps, keep_first):
    return steps[:1] if keep_first else between_masks(grid, 0, steps[0])


def last_layer(grid, steps, keep_last):
    return steps[-1:] if keep_last else between_masks(grid, steps[-1], grid.full)


def states_above(grid, mask, started):
    """The allowed states that a climb can go on to where the plan starts these services."""
    return between_masks(grid, mask, mask | started)


def count_climbs(book, plan, *, keep_first=False, keep_last=False):
    steps = plan_masks(book, plan)
    grid = book.grid()
    counts = {mask: 1 for mask in first_layer(grid, steps, keep_first)}
    for started in start_masks(steps):
        further = {}
        for mask in counts:
            for above in states_above(grid, mask, started):
                further[above] = further.get(above, 0) + counts[mask]
        counts = further
    return sum([counts.get(mask, 0) for mask in last_layer(grid, steps, keep_last)])


def climb_layers(book, plan, *, keep_first=False, keep_last=False):
    """What the last entry has to be does not count here, so `keep_last` is not read."""
    steps = plan_masks(book, plan)
    grid = book.grid()
    layers = [first_layer(grid, steps, keep_first)]
    for started in start_masks(steps):
        layers.append(next_layer(grid, layers[-1], started))
    return tuple([grid.ascending(layer) for layer in layers])


def next_layer(grid, layer, started):
    further = {}
    for mask in layer:
        for above in states_above(grid, mask, started):
            further[above] = True
    return list(further)


def shows_no_climb(book, plan, layers, *, keep_first=False, keep_last=False):
    steps = plan_masks(book, plan)
    grid = book.grid()
    told = told_layers(grid, layers)
    if told is None or len(told) != len(steps):
        return False
    if not has_all(told[0], first_layer(grid, steps, keep_first)):
        return False
    for at, started in enumerate(start_masks(steps)):
        if not has_all(told[at + 1], next_layer(grid, list(told[at]), started)):
            return False
    return not any([mask in told[-1] for mask in last_layer(grid, steps, keep_last)])


def told_layers(grid, value):
    """For each layer a dict with the masks of its states, or None if any value is not made of layers."""
    if not is_sequence(value):
        return None
    layers = []
    for layer in value:
        if not is_sequence(layer):
            return None
        masks = masks_as_keys([grid.state_of(state) for state in layer])
        if None in masks:
            return None
        layers.append(masks)
    return layers


def has_all(known, masks):
    for mask in masks:
        if mask not in known:
            return False
    return True


def unbent_plan(book, batches):
    """Plans that only start are lengthened change by change; what can follow depends on the last state and layer."""
    fitting = fit_table(book.grid(), batch_masks(book, batches))
    grid = book.grid()
    plans = [([mask], between_masks(grid, 0, mask)) for mask in grid.running]
    seen = {}
    while plans:
        longer = []
        for steps, layer in plans:
            for goal in grid.running:
                started = goal & ~steps[-1]
                if not fitting[started]:
                    continue
                further = sorted(next_layer(grid, layer, started))
                if not any([goal & ~mask == 0 for mask in further]):
                    return grid.in_turn(steps + [goal])
                place = (goal, *further)
                if steps[-1] & ~goal == 0 and place not in seen:
                    seen[place] = True
                    longer.append((steps + [goal], further))
        plans = longer
    return None
