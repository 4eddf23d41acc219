"""Lots as bit masks, so that many of them can be asked about in good time.

Bit k of a mask stands for the service at index k. If one lot is a proper part of another one,
its mask is the smaller number. A set of lots is a number as well, in which bit k stands for the lot with mask k.
"""

from stopsfirst.errors import InvalidState, NotAllowed
from stopsfirst.rules import allows


class Grid:
    """All lots of some services by their masks, and which of them some kept rules allow."""

    def __init__(self, services, rules):
        self.full = (1 << len(services)) - 1
        self.lots = lots_by_mask(services)
        self.mask_parts = parts_by_mask(len(services))
        self.masks = {lot: mask for mask, lot in enumerate(self.lots)}
        self.allowed = [all_allow(rules, lot) for lot in self.lots]
        self.ordered = [self.masks[lot] for lot in sorted(self.lots)]
        self.running = [mask for mask in self.ordered if self.allowed[mask]]
        self.below = sets_below(len(services))
        self.above = sets_above(self.full)
        self.running_set = set_of(self.running)

    def mask_of(self, value):
        """The mask of any value, or None if it is no lot of the services."""
        if not isinstance(value, tuple):
            return None
        for name in value:
            if not isinstance(name, str):
                return None
        return self.masks.get(value)

    def state_of(self, value):
        """The mask of any value, or None if it is no allowed state."""
        mask = self.mask_of(value)
        return mask if mask is not None and self.allowed[mask] else None

    def in_turn(self, masks):
        """The lots of these masks, in the order in which the masks stand."""
        return tuple([self.lots[mask] for mask in masks])

    def ascending(self, masks):
        return tuple(sorted([self.lots[mask] for mask in masks]))

    def first_of(self, masks):
        return min([self.lots[mask] for mask in masks])

    def first_in(self, found):
        """The mask of the first lot of a set that has at least one."""
        return self.masks[self.first_of(members(found))]

    def told_set(self, found):
        """The lots of a set, ascending."""
        return self.ascending(members(found))


def lots_by_mask(services):
    lots = [()]
    for name in services:
        lots = lots + [lot + (name,) for lot in lots]
    return lots


def parts_by_mask(count):
    """For each mask the masks of all its parts."""
    parts = [[0]]
    for mask in range(1, 1 << count):
        lowest = mask & -mask
        fewer = parts[mask - lowest]
        parts.append(fewer + [part | lowest for part in fewer])
    return parts


def sets_below(count):
    """For each mask the set of its parts, as a number in which bit k stands for mask k."""
    below = [1]
    for mask in range(1, 1 << count):
        lowest = mask & -mask
        fewer = below[mask - lowest]
        below.append(fewer | fewer << lowest)
    return below


def sets_above(full):
    """For each mask the set of the masks that it is a part of."""
    above = {full: 1 << full}
    for mask in range(full - 1, -1, -1):
        missing = full & ~mask
        lowest = missing & -missing
        more = above[mask | lowest]
        above[mask] = more | more >> lowest
    return [above[mask] for mask in range(full + 1)]


def set_of(masks):
    found = 0
    for mask in masks:
        found |= 1 << mask
    return found


def members(found):
    """The masks of a set, smaller numbers first."""
    masks = []
    while found:
        lowest = found & -found
        masks.append(lowest.bit_length() - 1)
        found = found & (found - 1)
    return masks


def all_allow(rules, lot):
    for rule in rules:
        if not allows(rule, lot):
            return False
    return True


def lot_mask(grid, value, at):
    """The mask of an argument that is to be a lot of services."""
    mask = grid.mask_of(value)
    if mask is None:
        raise InvalidState(at)
    return mask


def state_masks(grid, values):
    """The masks of arguments that are to be allowed states."""
    masks = [lot_mask(grid, value, at) for at, value in enumerate(values)]
    for at, mask in enumerate(masks):
        if not grid.allowed[mask]:
            raise NotAllowed(at)
    return masks


def between_masks(grid, low, high):
    """The allowed states that contain one mask and are within another one."""
    if low & ~high:
        return []
    return [low | part for part in grid.mask_parts[high & ~low] if grid.allowed[low | part]]


def within_one(mask, others):
    for other in others:
        if mask & ~other == 0:
            return True
    return False


def contains_one(mask, others):
    for other in others:
        if other & ~mask == 0:
            return True
    return False


def least_masks(masks):
    """Smaller numbers come first, so that a mask need only be held against those already kept."""
    least = []
    for mask in sorted(masks):
        if not contains_one(mask, least):
            least.append(mask)
    return least


def greatest_masks(masks):
    """Greater numbers come first, so that a mask need only be held against those already kept."""
    greatest = []
    for mask in sorted(masks, reverse=True):
        if not within_one(mask, greatest):
            greatest.append(mask)
    return greatest


def met(masks):
    """The common part of at least one mask."""
    meet = masks[0]
    for mask in masks:
        meet &= mask
    return meet


def joined(masks):
    join = 0
    for mask in masks:
        join |= mask
    return join
