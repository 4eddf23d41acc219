"""States from which you win whatever others do, and how."""

from stopsfirst.basics import is_tuple_of, is_word
from stopsfirst.bending import bent_by, tail_masks
from stopsfirst.changes import first_way, leading_into, rising_table, told_integers
from stopsfirst.errors import NotAllowed, NotBendable, Refused
from stopsfirst.grids import between_masks, greatest_masks, least_masks, members, set_of
from stopsfirst.others import around, asked_mask, check_left, needs_fewer
from stopsfirst.plans import plan_masks


def safe_distance(contest, state, left=None):
    mask = asked_with_left(contest, state, left)
    return open_distances(contest, left).get(mask)


def asked_with_left(contest, state, left):
    mask = asked_mask(contest, state)
    if left is not None:
        check_left(left, 2)
    return mask


def open_set(contest, left):
    """The set of the states that are open with so many stops."""
    grid = contest.field
    held = [mask for mask in grid.running if needs_fewer(contest, mask, left)]
    return grid.running_set & ~around(grid, held)


def open_distances(contest, left):
    """For each state from which open states lead to a goal, by its mask, the least number of changes."""
    inside = open_set(contest, left)
    level = contest.goal_set & inside
    found = level
    numbers = {}
    number = 0
    while level:
        for mask in members(level):
            numbers[mask] = number
        number += 1
        level = leading_into(contest.leads, inside & ~found, level)
        found |= level
    return numbers


def safe_answer(contest, state, left=None):
    mask = asked_with_left(contest, state, left)
    numbers = open_distances(contest, left)
    if mask not in numbers:
        raise Refused(0)
    if numbers[mask] == 0:
        return contest.field.lots[mask]
    nearer = [other for other in members(contest.leads[mask]) if numbers.get(other) == numbers[mask] - 1]
    return contest.field.first_of(nearer)


def stuck_least(contest):
    grid = contest.field
    stuck = [mask for mask in least_masks(grid.running) if contest.needs[mask] == 0]
    return grid.first_of(stuck) if stuck else None


def climb_above(contest, state):
    mask = asked_mask(contest, state)
    grid = contest.field
    goals = around(grid, members(contest.goal_set))
    way = first_way(grid, rising_table(grid, contest.leads), 1 << mask, goals, grid.running_set)
    return None if way is None else grid.in_turn(way)


def safe_states(contest):
    return contest.field.in_turn(safe_masks(contest))


def safe_masks(contest):
    """The masks of the safe states, in their order."""
    return [mask for mask in contest.field.running if contest.needs[mask] is None]


def safe_gap(contest):
    safe = safe_masks(contest)
    for a in safe:
        for b in safe:
            if not has_safe_middle(contest, a, b):
                return contest.field.in_turn((a, b))
    return None


def has_safe_middle(contest, a, b):
    for x in between_masks(contest.field, a & b, a):
        if is_safe(contest, x | b):
            return True
    return False


def is_safe(contest, mask):
    return contest.field.allowed[mask] and contest.needs[mask] is None


def bend_safely(contest, plan):
    steps = plan_masks(contest.book, plan)
    for at, mask in enumerate(steps):
        if not is_safe(contest, mask):
            raise NotAllowed(at)
    bent = bent_by(contest.book, plan, tail_masks(lazy_safe_masks(contest, steps)))
    if bent is None:
        raise NotBendable()
    return bent


def lazy_safe_masks(contest, steps):
    """The lazy plan of a plan of safe states, by safe states only."""
    grid = contest.field
    lazy = steps[:1]
    for at in range(1, len(steps)):
        inside = [mask for mask in between_masks(grid, steps[at], lazy[-1] | steps[at]) if is_safe(contest, mask)]
        lazy.append(grid.masks[grid.first_of(greatest_masks(inside))])
    return lazy


def safety_evidence(contest, state):
    mask = asked_mask(contest, state)
    grid = contest.field
    numbers = open_distances(contest, None)
    if is_safe(contest, mask):
        return ("safe", tuple([(grid.lots[other], numbers[other]) for other in safe_masks(contest)]))
    held = [other for other in grid.running if needs_fewer(contest, other, contest.needs[mask] + 1)]
    return ("held", tuple([(grid.lots[other], contest.needs[other]) for other in held]))


def is_safety_evidence(contest, state, value):
    mask = asked_mask(contest, state)
    if not is_tuple_of(value, 2):
        return False
    numbers = told_integers(contest.field, value[1])
    if numbers is None or mask not in numbers or min([numbers[other] for other in numbers]) < 0:
        return False
    if is_word(value[0], "safe"):
        return all([shows_safe(contest, numbers, other) for other in numbers])
    return is_word(value[0], "held") and all([shows_held(contest, numbers, other) for other in numbers])


def shows_safe(contest, numbers, mask):
    grid = contest.field
    if grid.below[mask] & grid.running_set & ~set_of(list(numbers)):
        return False
    if numbers[mask] == 0:
        return contest.goal_set >> mask & 1 == 1
    return any([numbers.get(other) == numbers[mask] - 1 for other in members(contest.leads[mask])])


def shows_held(contest, numbers, mask):
    grid = contest.field
    number = numbers[mask]
    if any([other in numbers and numbers[other] < number for other in members(grid.below[mask])]):
        return True
    if contest.goal_set >> mask & 1:
        return False
    return all([other in numbers and numbers[other] <= number for other in members(contest.leads[mask])])
