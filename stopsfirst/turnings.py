"""Which services can be turned: under every turning a rulebook bends, or under some it does not."""

from stopsfirst.basics import is_tuple_of, is_word
from stopsfirst.court import is_locked_change
from stopsfirst.errors import NotBendable
from stopsfirst.merging import down_up
from stopsfirst.plans import plan_masks
from stopsfirst.turned import book_turned_by, locked_under


def turnings(book):
    grid = book.grid()
    return tuple([(grid.lots[mask], locked_under(book, mask)) for mask in grid.ordered])


def stop_fault(grid, bit):
    """The mask of the first allowed state that runs a service and is not allowed without it, or None."""
    for mask in grid.running:
        if mask & bit and not grid.allowed[mask & ~bit]:
            return mask
    return None


def start_fault(grid, bit):
    """The mask of the first allowed state that does not run a service and is not allowed with it, or None."""
    for mask in grid.running:
        if not mask & bit and not grid.allowed[mask | bit]:
            return mask
    return None


def every_turning(book):
    grid = book.grid()
    turned = 0
    for bit in [1 << at for at in range(len(book.services))]:
        a = stop_fault(grid, bit)
        b = start_fault(grid, bit)
        if a is not None and b is not None:
            return ("some", grid.lots[a & ~b & ~bit], grid.in_turn((a, b)))
        if a is not None:
            turned |= bit
    return ("every", grid.lots[turned])


def is_turning_paper(book, value):
    if is_tuple_of(value, 2) and is_word(value[0], "every"):
        return is_turned_each_way(book, value[1])
    if not is_tuple_of(value, 3) or not is_word(value[0], "some") or not is_tuple_of(value[2], 2):
        return False
    grid = book.grid()
    turned = grid.mask_of(value[1])
    a, b = [grid.state_of(state) for state in value[2]]
    if turned is None or a is None or b is None:
        return False
    return is_locked_change(book_turned_by(book, turned).grid(), a ^ turned, b ^ turned)


def is_turned_each_way(book, value):
    """Whether any value is a lot of services that always start, while all others always stop."""
    grid = book.grid()
    turned = grid.mask_of(value)
    if turned is None:
        return False
    for bit in [1 << at for at in range(len(book.services))]:
        fault = start_fault(grid, bit) if turned & bit else stop_fault(grid, bit)
        if fault is not None:
            return False
    return True


def sorted_plan(book, plan):
    steps = plan_masks(book, plan)
    paper = every_turning(book)
    if paper[0] == "some":
        raise NotBendable()
    grid = book.grid()
    mask = grid.masks[paper[1]]
    other = book_turned_by(book, mask)
    told = down_up(other, grid.in_turn([state ^ mask for state in steps]))
    return grid.in_turn([grid.masks[state] ^ mask for state in told])
