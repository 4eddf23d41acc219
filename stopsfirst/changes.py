"""Which states the changes lead to, as sets of masks: what is reached, and by which states on the way.

A table has, for each mask, the set of the states to which a change leads from it.
"""

from stopsfirst.basics import is_integer, is_tuple_of
from stopsfirst.grids import members, state_masks
from stopsfirst.plans import batch_masks


class Journey:
    """The changes that fit into some batches, and the states that were asked about, by their masks."""

    def __init__(self, book, batches, states):
        checked = batch_masks(book, batches)
        self.field = book.grid()
        self.ends = state_masks(self.field, states)
        self.leads = change_table(self.field, checked)


def change_table(grid, batches):
    """The changes that fit; the batches are told by their masks."""
    return [fitting_set(grid, batches, mask) if grid.allowed[mask] else 0 for mask in range(grid.full + 1)]


def fitting_set(grid, batches, mask):
    if batches is None:
        return grid.running_set
    found = grid.below[mask]
    for batch in batches:
        found |= grid.below[mask | batch]
    return found & grid.running_set


def rising_table(grid, table):
    """Only the changes of a table that stop nothing."""
    return [found & above for found, above in zip(table, grid.above)]


def plain_table(grid, table):
    """Only the changes of a table that stop nothing or start nothing."""
    return [found & (grid.above[mask] | grid.below[mask]) for mask, found in enumerate(table)]


def limited_table(grid, table, stops, starts):
    """Only the changes of a table that stop and start services of these two masks."""
    return [found & grid.above[mask & ~stops] & grid.below[mask | starts] for mask, found in enumerate(table)]


def reached_set(table, starts, inside):
    """What is reached from the states of a set by way of states of the set `inside`, those at the start too."""
    found = starts & inside
    level = found
    while level:
        level = next_level(table, level) & inside & ~found
        found |= level
    return found


def next_level(table, level):
    found = 0
    for mask in members(level):
        found |= table[mask]
    return found


def first_way(grid, table, starts, goals, inside):
    """Of the ways from a set to another one with the fewest changes the first, by masks; None if there is no way."""
    levels = levels_to(table, starts & inside, goals, inside)
    if levels is None:
        return None
    useful = [levels[-1] & goals]
    for level in reversed(levels[:-1]):
        useful.append(leading_into(table, level, useful[-1]))
    way = []
    choices = useful[-1]
    for level in reversed(useful[:-1]):
        way.append(grid.first_in(choices))
        choices = table[way[-1]] & level
    return way + [grid.first_in(choices)]


def levels_to(table, starts, goals, inside):
    """The sets of the states by their numbers of changes, up to the first one with a goal; None if there is none."""
    found = starts
    levels = [starts]
    while not levels[-1] & goals:
        level = next_level(table, levels[-1]) & inside & ~found
        if not level:
            return None
        found |= level
        levels.append(level)
    return levels


def leading_into(table, level, goals):
    """Those of a set from which a change leads to one of another set."""
    found = 0
    for mask in members(level):
        if table[mask] & goals:
            found |= 1 << mask
    return found


def leading_set(table, goals, inside):
    """From where a goal in the set `inside` is reached by way of states of this set, those at the start too."""
    found = goals & inside
    level = found
    while level:
        level = leading_into(table, inside & ~found, found)
        found |= level
    return found


def told_masks(grid, value):
    """The masks of the states of a tuple, or None if any value is no tuple of allowed states."""
    if not isinstance(value, tuple):
        return None
    masks = [grid.state_of(state) for state in value]
    return None if None in masks else masks


def told_integers(grid, value):
    """A dict with the integer of each state, or None if any value is not ascending pairs of states and integers."""
    if not isinstance(value, tuple):
        return None
    told = {}
    before = None
    for row in value:
        if not is_tuple_of(row, 2) or grid.state_of(row[0]) is None or not is_integer(row[1]):
            return None
        if before is not None and row[0] <= before:
            return None
        before = row[0]
        told[grid.masks[before]] = row[1]
    return told


def is_way(table, masks):
    """Whether a change of the table leads from each state of some to the next one."""
    return all([table[masks[at - 1]] >> masks[at] & 1 for at in range(1, len(masks))])


def goes_between(ends, masks):
    """Whether some states begin with the first and end with the last of two."""
    return len(masks) > 0 and [masks[0], masks[-1]] == ends
