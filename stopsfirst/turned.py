"""Turned services, which are started at will and stopped in batches.

With the turned services told the other way round (those that rest in place of those that run), free moves are stops
and batched moves are starts; so what holds of changes, middles and climbs is asked of the rulebook that is told so.
"""

from stopsfirst.bending import bend
from stopsfirst.court import is_bendable, is_locked_change
from stopsfirst.errors import InvalidQuestion, NotBendable
from stopsfirst.grids import state_masks
from stopsfirst.pairs import middle_parts
from stopsfirst.plans import batch_masks, first_misfit, plan_masks, start_masks
from stopsfirst.rulebooks import Rulebook


def turned_mask(book, turned):
    mask = book.grid().mask_of(turned)
    if mask is None:
        raise InvalidQuestion(0)
    return mask


def sides(book, turned, first, second):
    grid = book.grid()
    mask = turned_mask(book, turned)
    a, b = [state ^ mask for state in state_masks(grid, (first, second))]
    return grid.in_turn((a & ~b, b & ~a))


def turned_fault(book, turned, plan, batches=None):
    mask = turned_mask(book, turned)
    batched = start_masks([state ^ mask for state in plan_masks(book, plan)])
    checked = batch_masks(book, batches)
    return first_misfit(batched, [checked] * len(batched))


def turned_book(book, turned):
    return book_turned_by(book, turned_mask(book, turned))


def book_turned_by(book, mask):
    """The rulebook with the services of a mask turned."""
    grid = book.grid()
    states = grid.ascending([state ^ mask for state in grid.running])
    return Rulebook(book.services, (("table", book.services, states),))


def turned_middles(book, turned, first, second):
    grid = book.grid()
    mask = turned_mask(book, turned)
    a, b = [state ^ mask for state in state_masks(grid, (first, second))]
    parts = middle_parts(book_turned_by(book, mask).grid(), a, b)
    return grid.ascending([(a & b | part) ^ mask for part in parts])


def turned_locked(book, turned):
    return locked_under(book, turned_mask(book, turned))


def locked_under(book, mask):
    """The first pair of allowed states that is locked with the services of a mask turned, or None."""
    grid = book.grid()
    other = book_turned_by(book, mask).grid()
    for a in grid.running:
        for b in grid.running:
            if is_locked_change(other, a ^ mask, b ^ mask):
                return grid.in_turn((a, b))
    return None


def bends(book, turned):
    return is_bendable(turned_book(book, turned))


def one_way(book, turned, plan):
    mask = turned_mask(book, turned)
    steps = plan_masks(book, plan)
    other = book_turned_by(book, mask)
    if not is_bendable(other):
        raise NotBendable()
    grid = book.grid()
    climb = bend(other, grid.in_turn([state ^ mask for state in steps])).climb
    return grid.in_turn([grid.masks[state] ^ mask for state in climb])
