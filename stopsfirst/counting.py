"""How many climbs there are from one state to another one, and which number each of them has."""

from stopsfirst.basics import is_number, is_sequence
from stopsfirst.changes import Journey, rising_table
from stopsfirst.errors import InvalidPlan, InvalidQuestion
from stopsfirst.grids import members

MOST_CHANGES = 1000000000


class Ascent(Journey):
    """The changes that start something, stop nothing and fit, with how many climbs lead to the goals, for each state.

    The goals are the last state, or all states around it. `numbers` has for each allowed state, by its mask, how many
    strict climbs there are with no change, with one, with two, and so on.
    """

    def __init__(self, book, batches, first, second, is_open):
        Journey.__init__(self, book, batches, (first, second))
        table = rising_table(self.field, self.leads)
        self.leads = [found & ~(1 << mask) for mask, found in enumerate(table)]
        last = self.ends[1]
        goals = self.field.above[last] if is_open else 1 << last
        self.numbers = climb_numbers(self.field, self.leads, goals, len(book.services))


def climb_numbers(grid, leads, goals, most):
    """Greater states have the greater masks, so that all that a change leads to is counted before."""
    numbers = {}
    for mask in sorted(grid.running, reverse=True):
        counts = [goals >> mask & 1] + [0] * most
        for other in members(leads[mask]):
            for changes in range(most):
                counts[changes + 1] += numbers[other][changes]
        numbers[mask] = counts
    return numbers


def strict_counts(book, batches, first, second):
    ascent = Ascent(book, batches, first, second, False)
    return tuple(ascent.numbers[ascent.ends[0]])


def steps_up(ascent, mask):
    """The masks to which a change leads that starts something and stops nothing, in the order of their lots."""
    return [other for other in ascent.field.running if ascent.leads[mask] >> other & 1]


def climb_at(book, batches, first, second, number):
    ascent = Ascent(book, batches, first, second, False)
    climb = ascent.ends[:1]
    if not is_number(number) or number >= sum(ascent.numbers[climb[0]]):
        raise InvalidQuestion(0)
    left = number
    while climb[-1] != ascent.ends[1]:
        behind, left = step_with(ascent, climb[-1], left)
        climb.append(behind)
    return ascent.field.in_turn(climb)


def step_with(ascent, mask, number):
    """The state to which the climb from here with a number goes on, and which number its rest has from there."""
    for other in steps_up(ascent, mask):
        many = sum(ascent.numbers[other])
        if number < many:
            return (other, number)
        number -= many
    return None


def climb_number(book, batches, first, second, climb):
    ascent = Ascent(book, batches, first, second, False)
    masks = strict_masks(ascent, climb)
    number = 0
    for at in range(1, len(masks)):
        for other in steps_up(ascent, masks[at - 1]):
            if other == masks[at]:
                break
            number += sum(ascent.numbers[other])
    return number


def strict_masks(ascent, value):
    """The masks of what is to be a strict climb from the first to the second state."""
    if not is_sequence(value) or len(value) == 0:
        raise InvalidPlan(0)
    masks = [ascent.field.state_of(state) for state in value]
    for at, mask in enumerate(masks):
        if mask is None or at == 0 and mask != ascent.ends[0]:
            raise InvalidPlan(at)
        if at > 0 and not ascent.leads[masks[at - 1]] >> mask & 1:
            raise InvalidPlan(at)
    if masks[-1] != ascent.ends[1]:
        raise InvalidPlan(len(masks))
    return masks


def check_changes(changes):
    if not is_number(changes) or changes > MOST_CHANGES:
        raise InvalidQuestion(0)


def weak_sum(counts, changes):
    """How many weak climbs have so many changes; the changes of a strict one stand at any places among these."""
    return sum([many * choices(changes, strict) for strict, many in enumerate(counts)])


def choices(many, few):
    """How many ways there are to choose few of many."""
    ways = 1
    for at in range(few):
        ways = ways * (many - at) // (at + 1)
    return ways


def weak_count(book, batches, first, second, changes):
    ascent = Ascent(book, batches, first, second, False)
    check_changes(changes)
    return weak_sum(ascent.numbers[ascent.ends[0]], changes)


def bent_count(book, batches, first, second, changes):
    ascent = Ascent(book, batches, first, second, True)
    check_changes(changes)
    grid = ascent.field
    starts = members(grid.below[ascent.ends[0]] & grid.running_set)
    return sum([weak_sum(ascent.numbers[mask], changes) for mask in starts])


def balance(book, first, second):
    counts = strict_counts(book, None, first, second)
    return sum(counts[0::2]) - sum(counts[1::2])
