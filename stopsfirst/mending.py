"""Mends: which states would have to be let in, or barred, for a rulebook to be bendable."""

from stopsfirst.basics import is_number, is_sequence, is_tuple_of, is_word
from stopsfirst.errors import InvalidQuestion, InvalidState, NotAllowed, Refused
from stopsfirst.grids import lot_mask, set_of, state_masks
from stopsfirst.lots import is_ascending, is_lot, least_lots
from stopsfirst.repairs import first_cures, has_middle_in, is_within, working_turns
from stopsfirst.rulebooks import Rulebook

SORTS = ("add", "bar", "both")
MOST_KEPT = 4
MOST_BARRED = 8
MOST_TURNED = 3


def mended(book, mend):
    grid = book.grid()
    added, barred = mend_sets(grid, mend)
    states = grid.told_set(grid.running_set & ~barred | added)
    return Rulebook(book.services, (("table", book.services, states),))


def mend_sets(grid, value):
    """The sets of the lots that any value lets in and bars, if it is a mend."""
    if not is_tuple_of(value, 2) or not all([has_ascending_lots(lots) for lots in value]):
        raise InvalidQuestion(0)
    masks = [grid.mask_of(lot) for lot in value[0] + value[1]]
    if None in masks:
        raise InvalidState(masks.index(None))
    many = len(value[0])
    for at, mask in enumerate(masks):
        if at < many and grid.allowed[mask]:
            raise Refused(at)
        if at >= many and not grid.allowed[mask]:
            raise NotAllowed(at)
    return (set_of(masks[:many]), set_of(masks[many:]))


def has_ascending_lots(value):
    """Whether any value is a tuple in which the lots ascend, whatever else stands there."""
    return isinstance(value, tuple) and is_ascending(tuple([thing for thing in value if is_lot(thing)]))


class Wish:
    """The mends that are looked for, as a repair: lots are let in, and states barred, as far as the wish lets."""

    def __init__(self, grid, sort, kept, most):
        self.field = grid
        self.may_add = sort != "bar"
        self.may_bar = sort != "add"
        self.kept = set_of(kept)
        self.most = most

    def family(self, turned):
        return self.field.running_set & ~turned[1] | turned[0]

    def cures(self, turned, a, b):
        settled = turned[0] | turned[1]
        found = []
        if self.may_bar:
            found = [(0, 1 << end) for end in (a, b) if not (settled | self.kept) >> end & 1]
        if self.may_add:
            found.extend(letting_in(self.field, self.family(turned), settled, a, b))
        return found


def letting_in(grid, family, settled, a, b):
    """What can be let in for two states of a set to have a middle: the least lots, in their order."""
    found = []
    for part in grid.mask_parts[a & ~b]:
        missing = [mask for mask in (a & b | part, b | part) if not family >> mask & 1]
        if set_of(missing) & settled == 0:
            found.append(grid.ascending(missing))
    return [(set_of([grid.masks[lot] for lot in lots]), 0) for lots in least_lots(found)]


def check_sort(sort):
    if not any([is_word(sort, word) for word in SORTS]):
        raise InvalidQuestion(0)


def kept_masks(grid, keep, fewest, before):
    """The masks of what is to be at least so many kept states; `before` is how many states are passed ahead."""
    if not is_sequence(keep) or not fewest <= len(keep) <= MOST_KEPT:
        raise InvalidQuestion(1)
    masks = [lot_mask(grid, state, before + at) for at, state in enumerate(keep)]
    for at, mask in enumerate(masks):
        if not grid.allowed[mask]:
            raise NotAllowed(before + at)
    return masks


def asked_wish(book, sort, keep, most):
    check_sort(sort)
    kept = kept_masks(book.grid(), keep, 0, 0)
    if not is_number(most) or most > (MOST_BARRED if sort == "bar" else MOST_TURNED):
        raise InvalidQuestion(2)
    return Wish(book.grid(), sort, kept, most)


def remedies(book, start, goal, sort, keep):
    grid = book.grid()
    a, b = state_masks(grid, (start, goal))
    check_sort(sort)
    wish = Wish(grid, sort, kept_masks(grid, keep, 0, 2), MOST_BARRED)
    if has_middle_in(grid, grid.running_set, a, b):
        return ()
    return told_mends(grid, first_cures(wish, a, b))


def told_mends(grid, turns):
    return tuple([(grid.told_set(added), grid.told_set(barred)) for added, barred in turns])


def fewest_mend(book, sort, keep, most):
    wish = asked_wish(book, sort, keep, most)
    return min(told_mends(wish.field, working_turns(wish, True)), default=None)


def least_mends(book, sort, keep, most):
    wish = asked_wish(book, sort, keep, most)
    working = working_turns(wish, False)
    least = [turned for turned in working if not any([is_within(other, turned) for other in working])]
    return tuple(sorted(told_mends(wish.field, least)))
