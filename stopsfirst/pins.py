"""Pins: services that are held on or off for a rulebook to be bendable."""

from stopsfirst.errors import InvalidQuestion
from stopsfirst.grids import joined, lot_mask, met
from stopsfirst.hidden import with_fixed
from stopsfirst.lots import common
from stopsfirst.mending import kept_masks
from stopsfirst.repairs import has_middle_in, is_within


def pinned(book, on, off):
    grid = book.grid()
    lot_mask(grid, on, 0)
    lot_mask(grid, off, 1)
    if common(on, off) != ():
        raise InvalidQuestion(0)
    return with_fixed(book, on, off)


class Pinning:
    """The bad pairs of a rulebook, and which services can be pinned on and off beside some kept states."""

    def __init__(self, book, keep):
        self.field = book.grid()
        kept = kept_masks(self.field, keep, 1, 0)
        running = self.field.running
        self.bad = [(a, b) for a in running for b in running
                    if not has_middle_in(self.field, self.field.running_set, a, b)]
        self.on = met(kept)
        self.off = self.field.full & ~joined(kept)

    def need(self, pair):
        """What can be pinned for one of two states to be one no more, as a pair of masks."""
        a, b = pair
        return (self.on & ~(a & b), self.off & (a | b))

    def least_needs(self):
        needs = {self.need(pair): True for pair in self.bad}
        return least_pairs(list(needs))


def least_pairs(pairs):
    """Those of some pairs of masks within which no other one lies."""
    return [pair for pair in pairs if not any([is_within(other, pair) for other in pairs])]


def told_pairs(grid, pairs):
    return tuple(sorted([grid.in_turn(pair) for pair in pairs]))


def pin_needs(book, keep):
    pinning = Pinning(book, keep)
    return told_pairs(pinning.field, pinning.least_needs())


def least_pins(book, keep):
    pinning = Pinning(book, keep)
    parts = pinning.field.mask_parts
    needs = pinning.least_needs()
    good = [(on, off) for on in parts[pinning.on] for off in parts[pinning.off] if meets_all(needs, on, off)]
    return told_pairs(pinning.field, least_pairs(good))


def meets_all(needs, on, off):
    """Whether pins have something of each need in the same place."""
    for needed_on, needed_off in needs:
        if not needed_on & on and not needed_off & off:
            return False
    return True


def bad_between(book, keep):
    pinning = Pinning(book, keep)
    for pair in pinning.bad:
        if pinning.need(pair) == (0, 0):
            return pinning.field.in_turn(pair)
    return None
