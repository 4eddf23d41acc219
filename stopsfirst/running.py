"""Running houses: a state that is led to a goal, change by change, while others may stop services."""

from stopsfirst.changes import change_table, first_way
from stopsfirst.errors import Refused
from stopsfirst.grids import state_masks
from stopsfirst.plans import batch_masks


class House:
    """A state of a rulebook, the batches of its changes, and perhaps a goal."""

    def __init__(self, book, state, batches):
        grid = book.grid()
        mask = state_masks(grid, (state,))[0]
        checked = batch_masks(book, batches)
        self.book = book
        self.batches = None if checked is None else grid.ascending(checked)
        self.state = grid.lots[mask]
        self.goal = None
        self.history = (self.state,)
        self._leads = change_table(grid, checked)

    def __eq__(self, other):
        return (isinstance(other, House) and self.book == other.book and self.batches == other.batches
                and self.goal == other.goal and self.history == other.history)

    def left(self):
        way = self.way_to(self.goal)
        return None if way is None else len(way) - 1

    def way_to(self, goal):
        """Of the plans to a goal with the fewest changes the first, or None; there is none without a goal."""
        if goal is None:
            return None
        grid = self.book.grid()
        start, end = 1 << grid.masks[self.state], 1 << grid.masks[goal]
        way = first_way(grid, self._leads, start, end, grid.running_set)
        return None if way is None else grid.in_turn(way)

    def aim(self, goal):
        grid = self.book.grid()
        told = grid.lots[state_masks(grid, (goal,))[0]]
        if self.way_to(told) is None:
            raise Refused(0)
        self.goal = told
        return self.left()

    def others(self, state):
        grid = self.book.grid()
        mask = grid.state_of(state)
        present = grid.masks[self.state]
        if mask is None or mask == present or mask & ~present:
            raise Refused(0)
        self.go_on((grid.lots[mask],))
        return self.left()

    def step(self):
        way = self.asked_way()
        self.go_on(way[1:2])
        return self.state

    def run(self):
        way = self.asked_way()
        self.go_on(way[1:])
        return way

    def asked_way(self):
        way = self.way_to(self.goal)
        if way is None:
            raise Refused(0)
        return way

    def go_on(self, states):
        """Goes to some states in turn; to none of them, nothing changes."""
        self.history = self.history + states
        self.state = self.history[-1]
