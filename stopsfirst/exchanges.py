"""Single orders, in which services are started one by one, and exchanges of neighbours in them."""

from stopsfirst.basics import is_sequence, is_service, is_tuple_of, is_word
from stopsfirst.errors import InvalidPlan, InvalidQuestion
from stopsfirst.grids import state_masks


def single_orders(book, first, second):
    grid = book.grid()
    a, b = state_masks(grid, (first, second))
    return orders_between(book, a, b)


def orders_between(book, a, b):
    """The single orders from one mask up to another one, ascending."""
    if a & ~b:
        return ()
    allowed = book.grid().allowed
    return tuple(all_orders(book, b & ~a, a, lambda before, bit: allowed[before | bit]))


def all_orders(book, left, before, may_follow):
    """All orders, ascending, of the services of a mask, each of which may follow what runs before it."""
    if left == 0:
        return [()]
    orders = []
    for at, name in enumerate(book.services):
        bit = 1 << at
        if left & bit and may_follow(before, bit):
            orders.extend([(name, *order) for order in all_orders(book, left & ~bit, before | bit, may_follow)])
    return orders


def exchange_row(book, first, one, other):
    start = state_masks(book.grid(), (first,))[0]
    begin = checked_order(book, start, one)
    end = checked_order(book, start, other)
    if sorted(begin) != sorted(end):
        raise InvalidQuestion(0)
    before = {begin: None}
    level = [begin]
    while level and end not in before:
        level = exchanged_level(book, start, level, before)
    if end not in before:
        return ("apart", tuple(sorted(before)))
    row = [end]
    while before[row[-1]] is not None:
        row.append(before[row[-1]])
    return ("row", tuple(list(reversed(row))))


def checked_order(book, start, value):
    """What is to be a sequence of services that can be started in turn, as a tuple."""
    if not is_sequence(value):
        raise InvalidPlan(0)
    grid = book.grid()
    state = start
    for at, name in enumerate(value):
        if not is_service(book.services, name):
            raise InvalidPlan(at)
        bit = 1 << book.services.index(name)
        if state & bit or not grid.allowed[state | bit]:
            raise InvalidPlan(at)
        state |= bit
    return tuple(value)


def exchanged_level(book, start, level, before):
    """The orders that first come from those of a level; `before`, which tells where each comes from, is filled in."""
    further = []
    for order in level:
        for other in exchanged(book, start, order):
            if other not in before:
                before[other] = order
                further.append(other)
    return further


def exchanged(book, start, order):
    """The single orders that come from one by exchanging two neighbours.

    All states but the one between the two stay the same.
    """
    grid = book.grid()
    found = []
    state = start
    for at in range(len(order) - 1):
        if grid.allowed[state | 1 << book.services.index(order[at + 1])]:
            found.append(order[:at] + (order[at + 1], order[at]) + order[at + 2:])
        state |= 1 << book.services.index(order[at])
    return found


class Orders:
    """The single orders from one state to another one, and the states that stand in them."""

    def __init__(self, book, first, second):
        self.field = book.grid()
        a, b = state_masks(self.field, (first, second))
        self.names = self.field.lots[b & ~a]
        self.singles = orders_between(book, a, b)
        self.standing = standing_states(self.field, a, self.singles)


def standing_states(grid, start, orders):
    """The states that stand in some orders, by their masks, as the keys of a dict."""
    found = {}
    for order in orders:
        state = start
        found[state] = True
        for name in order:
            state |= grid.masks[(name,)]
            found[state] = True
    return found


def order_paper(book, first, second):
    orders = Orders(book, first, second)
    if not orders.singles:
        return None
    pair = first_lacking(orders)
    if pair is not None:
        return ("lacks", *pair)
    return ("pairs", tuple([(x, y) for x in orders.names for y in orders.names if always(orders, x, y)]))


def first_lacking(orders):
    """The first pair of order states whose common part or joined lot is none, or None."""
    standing = [mask for mask in orders.field.ordered if mask in orders.standing]
    for a in standing:
        for b in standing:
            if lacks(orders, a, b):
                return orders.field.in_turn((a, b))
    return None


def lacks(orders, a, b):
    return a & b not in orders.standing or a | b not in orders.standing


def always(orders, x, y):
    """Whether one service comes before another one in each single order."""
    return all([order.index(x) < order.index(y) for order in orders.singles])


def is_order_paper(book, first, second, value):
    orders = Orders(book, first, second)
    if not orders.singles:
        return False
    if is_tuple_of(value, 3) and is_word(value[0], "lacks"):
        a, b = orders.field.mask_of(value[1]), orders.field.mask_of(value[2])
        return a in orders.standing and b in orders.standing and lacks(orders, a, b)
    if not is_tuple_of(value, 2) or not is_word(value[0], "pairs") or not isinstance(value[1], tuple):
        return False
    if not all([is_pair_of(orders.names, pair) for pair in value[1]]):
        return False
    return keeping_orders(book, orders, value[1]) == orders.singles


def is_pair_of(names, value):
    return is_tuple_of(value, 2) and is_service(names, value[0]) and is_service(names, value[1])


def keeping_orders(book, orders, pairs):
    """All orders that keep some pairs: no service follows before all those that have to come ahead of it."""
    grid = orders.field
    ahead = {grid.masks[(name,)]: 0 for name in orders.names}
    for x, y in pairs:
        ahead[grid.masks[(y,)]] |= grid.masks[(x,)]
    return tuple(all_orders(book, grid.masks[orders.names], 0, lambda before, bit: ahead[bit] & ~before == 0))
