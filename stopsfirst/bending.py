"""Bent plans: all stops in the first and the last change."""

from stopsfirst.basics import is_sequence
from stopsfirst.errors import NotBendable, Refused
from stopsfirst.grids import between_masks, greatest_masks
from stopsfirst.plans import plan_masks


class Bent:
    """A plan with a climb of it."""

    def __init__(self, book, plan, climb):
        grid = book.grid()
        steps = plan_masks(book, plan)
        climbed = climb_masks(grid, steps, climb)
        self.plan = grid.in_turn(steps)
        self.climb = grid.in_turn(climbed)
        self._first_stop = grid.lots[steps[0] & ~climbed[0]]
        self._last_stop = grid.lots[climbed[-1] & ~steps[-1]]

    def __eq__(self, other):
        return isinstance(other, Bent) and self.plan == other.plan and self.climb == other.climb

    @property
    def first_stop(self):
        return self._first_stop

    @property
    def last_stop(self):
        return self._last_stop

    @property
    def whole(self):
        return (self.plan[0], *self.climb, self.plan[-1])


def climb_masks(grid, steps, climb):
    """The masks of what is to be a climb of the plan with these masks."""
    if not is_sequence(climb):
        raise Refused(0)
    climbed = [grid.state_of(state) for state in climb]
    for at in range(max(len(climbed), len(steps))):
        if at >= len(climbed) or at >= len(steps) or not climbs_well(steps, climbed, at):
            raise Refused(at)
    return climbed


def climbs_well(steps, climbed, at):
    """Whether the climb is right at this index; it is known to be right at those before."""
    state = climbed[at]
    if state is None:
        return False
    if at == 0 and state & ~steps[0]:
        return False
    if at > 0 and not is_climb_step(climbed[at - 1], state, steps[at] & ~steps[at - 1]):
        return False
    return at < len(steps) - 1 or steps[at] & ~state == 0


def is_climb_step(before, behind, started):
    """Whether a climb may go on like this where the plan starts these services."""
    return before & ~behind == 0 and behind & ~before & ~started == 0


def lazy_plan(book, plan):
    masks = lazy_masks(book, plan)
    return book.grid().in_turn(masks)


def lazy_masks(book, plan):
    steps = plan_masks(book, plan)
    grid = book.grid()
    lazy = steps[:1]
    for at in range(1, len(steps)):
        inside = between_masks(grid, steps[at], lazy[-1] | steps[at])
        lazy.append(grid.masks[grid.first_of(greatest_masks(inside))])
    return lazy


def tails(book, plan):
    masks = tail_masks(plan_masks(book, plan))
    return book.grid().in_turn(masks)


def tail_masks(steps):
    """What runs from each state of a plan up to its end."""
    return list(reversed(meets_so_far(list(reversed(steps)))))


def meets_so_far(steps):
    meets = steps[:1]
    for at in range(1, len(steps)):
        meets.append(meets[-1] & steps[at])
    return meets


def joins_so_far(steps):
    joins = steps[:1]
    for at in range(1, len(steps)):
        joins.append(joins[-1] | steps[at])
    return joins


def bend(book, plan):
    bent = bent_by(book, plan, tail_masks(lazy_masks(book, plan)))
    if bent is None:
        raise NotBendable()
    return bent


def join_climb(book, plan):
    return bent_by(book, plan, joins_so_far(plan_masks(book, plan)))


def meet_climb(book, plan):
    return bent_by(book, plan, tail_masks(plan_masks(book, plan)))


def bent_by(book, plan, climbed):
    """The plan bent by these masks, or None if one of them is not allowed."""
    grid = book.grid()
    if not all([grid.allowed[mask] for mask in climbed]):
        return None
    return Bent(book, plan, grid.in_turn(climbed))
