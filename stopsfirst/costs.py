"""Costs: integers for lots of services, and middles that cost no more than what they stand between."""

from stopsfirst.basics import is_integer, is_sequence
from stopsfirst.errors import InvalidCost, InvalidQuestion, InvalidServices, InvalidState
from stopsfirst.forms import fault_in, value_of
from stopsfirst.grids import between_masks, state_masks
from stopsfirst.lots import common, is_lot, is_part
from stopsfirst.rulebooks import Rulebook, checked_services


class Cost:
    """Assigns an integer to each lot of its services."""

    def __init__(self, services, form):
        self.services = checked_services(services)
        fault = fault_in(self.services, form)
        if fault is not None:
            raise InvalidCost(fault)
        self.form = form

    def __eq__(self, other):
        return isinstance(other, Cost) and self.services == other.services and self.form == other.form

    def __call__(self, state):
        if not is_lot(state):
            raise InvalidState(0)
        return value_of(self.form, common(state, self.services))


def check_costs(book, costs):
    for at, cost in enumerate(costs):
        if not is_part(cost.services, book.services):
            raise InvalidServices(at)


def lids_of(costs, states):
    return tuple([max([cost(state) for state in states]) for cost in costs])


def value_lists(book, costs):
    """For each cost its values by the masks of lots of the rulebook's services."""
    check_costs(book, costs)
    return [[cost(lot) for lot in book.grid().lots] for cost in costs]


def greater_values(values, a, b):
    """For each list of values the greater of two of them."""
    return [max(numbers[a], numbers[b]) for numbers in values]


def stays_under(values, lids, mask):
    return all([numbers[mask] <= lid for numbers, lid in zip(values, lids)])


def even_middles(book, costs, a, b):
    values = value_lists(book, costs)
    grid = book.grid()
    first, second = state_masks(grid, (a, b))
    return grid.ascending(even_masks(grid, values, first, second))


def even_masks(grid, values, a, b):
    lids = greater_values(values, a, b)
    return [x for x in between_masks(grid, a & b, a)
            if grid.allowed[x | b] and stays_under(values, lids, x) and stays_under(values, lids, x | b)]


def uneven(book, costs):
    values = value_lists(book, costs)
    grid = book.grid()
    for a in grid.running:
        for b in grid.running:
            if not even_masks(grid, values, a, b):
                return grid.in_turn((a, b))
    return None


def under(book, costs, lids):
    values = value_lists(book, costs)
    if not is_sequence(lids) or len(lids) != len(costs) or not all([is_integer(lid) for lid in lids]):
        raise InvalidQuestion(0)
    grid = book.grid()
    states = grid.in_turn([mask for mask in grid.running if stays_under(values, lids, mask)])
    return Rulebook(book.services, (("table", book.services, states),))


def steep_changes(book, costs):
    values = value_lists(book, costs)
    grid = book.grid()
    pairs = [(a, b) for a in grid.running for b in grid.running if a & ~b and is_steep(grid, values, a, b)]
    return tuple([grid.in_turn(pair) for pair in pairs])


def is_steep(grid, values, a, b):
    lids = greater_values(values, a, b)
    inside = [x for x in between_masks(grid, a & b, a) if stays_under(values, lids, x)]
    around = [x for x in between_masks(grid, b, a | b) if stays_under(values, lids, x)]
    return inside == [a] and around == [b]
