"""Prices by which one plan costs more than another one."""

from stopsfirst.errors import InvalidQuestion
from stopsfirst.lots import parts_of
from stopsfirst.plans import plan_masks, start_masks
from stopsfirst.prices import Prices


def dearer_prices(book, one, other):
    first = plan_masks(book, one)
    second = plan_masks(book, other)
    for at, end in enumerate((0, -1)):
        if first[end] != second[end]:
            raise InvalidQuestion(at)
    if changes_of(first) > changes_of(second):
        return Prices((), (), fee=1)
    lot = first_shortest_dearer(book, start_masks(first), start_masks(second))
    return None if lot is None else Prices((), (), waits=[(name, 1) for name in lot])


def changes_of(masks):
    """How many changes of a plan do anything."""
    return len([at for at in range(1, len(masks)) if masks[at] != masks[at - 1]])


def first_shortest_dearer(book, started, others):
    """The first of the shortest lots of which one plan starts something in more changes than another one, or None."""
    grid = book.grid()
    for lot in sorted(parts_of(book.services), key=len):
        mask = grid.masks[lot]
        if times_hit(started, mask) > times_hit(others, mask):
            return lot
    return None


def times_hit(started, mask):
    return len([told for told in started if told & mask])
