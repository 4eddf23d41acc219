"""Looking for the least changes by which a rulebook becomes bendable, and for trees that show that there are none.

A repair has `field`, the lots of the rulebook by their masks, and `most`, how many turns may be made. What has been
turned is a pair of numbers in which a bit stands for each thing: what was let in and barred, or struck and put in.
The repair tells the allowed states behind some turns, as a set of masks (`family`), and what can be turned besides for
a bad pair of these to have a middle, or to be one no more (`cures`): whatever makes the rulebook bendable has one of
these within it.
"""

from stopsfirst.basics import is_tuple_of
from stopsfirst.grids import members

NOTHING = (0, 0)


def has_middle_in(grid, family, a, b):
    """Whether two states of a set have a middle if just the states of this set are allowed.

    Wherever the joined state is one of them, the first state itself is a middle; so this is looked at first.
    """
    if family >> (a | b) & 1:
        return True
    for part in grid.mask_parts[a & ~b]:
        if family >> (a & b | part) & family >> (b | part) & 1:
            return True
    return False


def nearest_bad_pair(grid, family):
    """A bad pair of a set, or None; with few services in its first state alone, so that few lots stand between."""
    masks = members(family)
    found = None
    for a in masks:
        for b in masks:
            if (found is None or gap_of(grid, a, b) < gap_of(grid, *found)) and not has_middle_in(grid, family, a, b):
                found = (a, b)
    return found


def gap_of(grid, a, b):
    return len(grid.lots[a & ~b])


def with_turns(turned, others):
    return (turned[0] | others[0], turned[1] | others[1])


def is_within(one, other):
    """Whether some turns are a proper part of other ones."""
    return one != other and with_turns(one, other) == other


def count_of(turned):
    return len(members(turned[0])) + len(members(turned[1]))


def working_turns(repair, only_fewest):
    """What can be turned to make the rulebook bendable: among it all that is least, or all with the fewest turns."""
    levels = [{} for _ in range(repair.most + 1)]
    levels[0][NOTHING] = True
    working = []
    for count in range(repair.most + 1):
        for turned in list(levels[count]):
            cures = cures_behind(repair, turned)
            if cures is None:
                working.append(turned)
                continue
            for further in [with_turns(turned, cure) for cure in cures]:
                if count_of(further) <= repair.most:
                    levels[count_of(further)][further] = True
        if working and only_fewest:
            return working
    return working


def cures_behind(repair, turned):
    """What can be turned besides, or None if the rulebook is bendable behind some turns."""
    pair = nearest_bad_pair(repair.field, repair.family(turned))
    return None if pair is None else repair.cures(turned, *pair)


def tree_for(repair):
    """Some tree, or None if there are turns that make the rulebook bendable."""
    return None if working_turns(repair, True) else tree_at(repair, NOTHING, {})


def tree_at(repair, turned, known):
    """The tree behind some turns; `known` has those that were made before."""
    if turned not in known:
        a, b = nearest_bad_pair(repair.field, repair.family(turned))
        arms = []
        for cure in repair.cures(turned, a, b):
            further = with_turns(turned, cure)
            arms.append(() if count_of(further) > repair.most else tree_at(repair, further, known))
        known[turned] = (*repair.field.in_turn((a, b)), tuple(arms))
    return known[turned]


def first_cures(repair, a, b):
    """What can be turned for a bad pair while nothing has been turned yet."""
    return repair.cures(NOTHING, a, b)


def is_tree(repair, value):
    """Whether any value is a tree for a repair."""
    return is_tree_at(repair, NOTHING, value)


def is_tree_at(repair, turned, value):
    """Whether any value is a tree behind some turns."""
    if not is_tuple_of(value, 3):
        return False
    grid = repair.field
    family = repair.family(turned)
    a, b = grid.mask_of(value[0]), grid.mask_of(value[1])
    if not is_bad_pair_in(grid, family, a, b):
        return False
    cures = repair.cures(turned, a, b)
    if not is_tuple_of(value[2], len(cures)):
        return False
    return all([is_arm(repair, with_turns(turned, cure), arm) for cure, arm in zip(cures, value[2])])


def is_bad_pair_in(grid, family, a, b):
    """Whether two masks, or None, are states of a set that have no middle in it."""
    if a is None or b is None or not family >> a & family >> b & 1:
        return False
    return not has_middle_in(grid, family, a, b)


def is_arm(repair, turned, value):
    return is_tuple_of(value, 0) if count_of(turned) > repair.most else is_tree_at(repair, turned, value)
