"""Contests: others stop services while you want to come to a goal."""

from stopsfirst.basics import is_number, is_sequence
from stopsfirst.changes import change_table, leading_set
from stopsfirst.errors import InvalidQuestion
from stopsfirst.grids import least_masks, members, set_of, state_masks
from stopsfirst.plans import batch_masks

MOST_GOALS = 64
MOST_LEFT = 1000


class Contest:
    """A rulebook, the batches of your changes, and the goals.

    `needs` has for each allowed state, by its mask, the least number of stops with which others hold it, or None.
    """

    def __init__(self, book, batches, goals):
        checked = batch_masks(book, batches)
        if not is_sequence(goals) or not 1 <= len(goals) <= MOST_GOALS:
            raise InvalidQuestion(2)
        self.field = book.grid()
        self.goal_set = set_of(state_masks(self.field, goals))
        self.book = book
        self.batches = None if checked is None else self.field.ascending(checked)
        self.goals = self.field.told_set(self.goal_set)
        self.leads = change_table(self.field, checked)
        self.needs = stops_needed(self.field, self.leads, self.goal_set)

    def __eq__(self, other):
        return (isinstance(other, Contest) and self.book == other.book and self.batches == other.batches
                and self.goals == other.goals)

    def needed(self, state):
        return self.needs[asked_mask(self, state)]

    def table(self):
        return tuple([(self.field.lots[mask], self.needs[mask]) for mask in self.field.running])

    def reply(self, state, left):
        mask = asked_mask(self, state)
        check_left(left, 1)
        if self.needs[mask] is None or self.needs[mask] > left:
            return None
        choices = [(self.needs[other], self.field.lots[other]) for other in least_masks(self.field.running)
                   if other != mask and other & ~mask == 0 and needs_fewer(self, other, left)]
        return min(choices)[1] if choices else None


def asked_mask(contest, state):
    return state_masks(contest.field, (state,))[0]


def check_left(left, at):
    if not is_number(left) or left > MOST_LEFT:
        raise InvalidQuestion(at)


def needs_fewer(contest, mask, left):
    """Whether others hold a state with fewer stops than so many; None stands for any number of stops."""
    number = contest.needs[mask]
    return number is not None and (left is None or number < left)


def stops_needed(grid, leads, goals):
    """For each allowed state, by its mask, the least number of stops with which others hold it, or None.

    With a number of stops others hold what lies around a state that they hold with one stop fewer, for there they
    can act. Besides that they hold all from which no plan keeps clear of these states up to a goal.
    """
    needs = {mask: None for mask in grid.running}
    number = 0
    level = grid.running_set & ~leading_set(leads, goals, grid.running_set)
    while level:
        for mask in members(level):
            needs[mask] = number
        number += 1
        held = [mask for mask in grid.running if needs[mask] is not None]
        clear = grid.running_set & ~around(grid, held)
        level = grid.running_set & ~set_of(held) & ~leading_set(leads, goals, clear)
    return needs


def around(grid, masks):
    """The set of the lots of which one of some masks is a part."""
    found = 0
    for mask in masks:
        found |= grid.above[mask]
    return found


def least_states(book):
    grid = book.grid()
    return grid.ascending(least_masks(grid.running))
