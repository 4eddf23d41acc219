"""Rulebooks with services hidden, fixed, copied or guarded, and what every rulebook that is not bendable has inside."""

from stopsfirst.basics import is_service, is_tuple_of
from stopsfirst.court import locked_changes
from stopsfirst.errors import InvalidQuestion, InvalidState
from stopsfirst.grids import greatest_masks, state_masks
from stopsfirst.joined import names_mask
from stopsfirst.lots import common, is_lot, is_name, is_part, less, united
from stopsfirst.plans import batch_masks, checked_plan
from stopsfirst.rulebooks import Rulebook


def hidden(book, names):
    check_hidden(book, names)
    others = less(book.services, names)
    lots = tuple(sorted(set([less(state, names) for state in book.states()])))
    return Rulebook(others, (("table", others, lots),))


def check_hidden(book, names):
    if names_mask(book, names) == book.grid().full:
        raise InvalidQuestion(1)


def lifts(book, names, lot):
    check_hidden(book, names)
    if not is_lot(lot) or not is_part(lot, less(book.services, names)):
        raise InvalidState(0)
    return lifts_of(book, names, lot)


def lifts_of(book, names, lot):
    return tuple([state for state in book.states() if less(state, names) == lot])


def freed(book, names, batches):
    check_hidden(book, names)
    checked = batch_masks(book, batches)
    mask = book.grid().masks[names]
    return None if checked is None else told_greatest(book, [mask] + [batch | mask for batch in checked])


def outside(book, names, batches):
    check_hidden(book, names)
    checked = batch_masks(book, batches)
    mask = book.grid().masks[names]
    return None if checked is None else told_greatest(book, [batch & ~mask for batch in checked])


def told_greatest(book, masks):
    """The greatest of some lots, without the empty one, ascending."""
    return book.grid().ascending(greatest_masks([mask for mask in masks if mask]))


def lifted(book, names, plan, start, goal):
    steps = checked_plan(hidden(book, names), plan)
    state_masks(book.grid(), (start, goal))
    if less(start, names) != steps[0]:
        raise InvalidQuestion(3)
    if less(goal, names) != steps[-1]:
        raise InvalidQuestion(4)
    if len(steps) == 1 and start == goal:
        return (start,)
    return (start, *[lifts_of(book, names, state)[0] for state in steps[1:-1]], goal)


def fixed(book, running, resting):
    grid = book.grid()
    if grid.mask_of(running) is None:
        raise InvalidQuestion(1)
    if grid.mask_of(resting) is None or common(running, resting) != ():
        raise InvalidQuestion(2)
    return with_fixed(book, running, resting)


def with_fixed(book, running, resting):
    """The rulebook with rules behind its own by which some services always run and others never do."""
    return book.with_rules([("imply", (), (x,)) for x in running] + [("imply", (x,), ()) for x in resting])


def copied(book, name, copy):
    return with_service(book, name, copy, (("imply", (name,), (copy,)), ("imply", (copy,), (name,))))


def guarded(book, name, guard):
    return with_service(book, name, guard, (("imply", (), (name, guard)), ("imply", (name, guard), ())))


def with_service(book, name, new, rules):
    """The rulebook with a further service, and rules about it and another one."""
    if not is_service(book.services, name):
        raise InvalidQuestion(1)
    if not is_name(new) or new in book.services:
        raise InvalidQuestion(2)
    return Rulebook(book.services + (new,), book.rules + rules)


def kernel(book):
    locked = locked_changes(book)
    if not locked:
        return None
    a, b = locked[0]
    alone = less(a, b)
    return (common(a, b), less(book.services, united(a, b)), alone[1:], alone[0], less(b, a))


def is_kernel(book, paper):
    grid = book.grid()
    if not is_tuple_of(paper, 5) or not is_service(book.services, paper[3]):
        return False
    low, never, free, last = [grid.mask_of(lot) for lot in (paper[0], paper[1], paper[2], paper[4])]
    if low is None or never is None or free is None or last is None:
        return False
    name = grid.masks[(paper[3],)]
    if low + never + free + name + last != grid.full or low | never | free | name | last != grid.full:
        return False
    left = {mask & ~low & ~free: True for mask in grid.running if low & ~mask == 0 and mask & never == 0}
    return name in left and last in left and 0 not in left and name | last not in left
