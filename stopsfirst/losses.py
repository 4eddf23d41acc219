"""What plans stop and start on the way, and fences, which show what limits keep from being reached."""

from stopsfirst.basics import is_sequence, is_tuple_of
from stopsfirst.bending import bend
from stopsfirst.changes import Journey, first_way, goes_between, is_way, limited_table, next_level
from stopsfirst.changes import reached_set, told_masks
from stopsfirst.court import is_bendable
from stopsfirst.errors import InvalidQuestion, NotBendable
from stopsfirst.grids import greatest_masks, joined, members, set_of
from stopsfirst.lots import common, greatest_lots, is_ascending, is_lot, is_part, least_lots, less
from stopsfirst.merging import short_plan
from stopsfirst.plans import plan_masks, start_masks, stop_masks


def loss_of(book, plan):
    masks = plan_masks(book, plan)
    return book.grid().lots[joined(stop_masks(masks))]


def starts_of(book, plan):
    masks = plan_masks(book, plan)
    return book.grid().lots[joined(start_masks(masks))]


def keeps_limits(book, plan, stops, starts):
    loss = loss_of(book, plan)
    check_lots(book, (stops, starts))
    return is_part(loss, stops) and is_part(starts_of(book, plan), starts)


def check_lots(book, values):
    """Refuses the first of some arguments that is no lot of services."""
    for at, value in enumerate(values):
        if book.grid().mask_of(value) is None:
            raise InvalidQuestion(at)


def leads_within(journey, stops, starts):
    """The changes that stop and start services of these two masks only."""
    return limited_table(journey.field, journey.leads, stops, starts)


def reached_within(journey, stops, starts):
    """The set of the states reached from the first one by plans that keep the limits."""
    grid = journey.field
    return reached_set(leads_within(journey, stops, starts), 1 << journey.ends[0], grid.running_set)


def plan_within(journey, goals, stops, starts):
    """The first of the shortest plans to a state of a set that keep the limits, or None."""
    grid = journey.field
    way = first_way(grid, leads_within(journey, stops, starts), 1 << journey.ends[0], goals, grid.running_set)
    return None if way is None else grid.in_turn(way)


def calm_plan(book, plan):
    """A plan without more changes, loss and starts, calm in a bendable rulebook; None stays None."""
    if plan is None:
        return None
    try:
        return short_plan(bend(book, plan))
    except NotBendable:
        return plan


def limited_plan(book, batches, start, goal, stops, starts):
    journey = Journey(book, batches, (start, goal))
    check_lots(book, (stops, starts))
    masks = journey.field.masks
    return calm_plan(book, plan_within(journey, 1 << journey.ends[1], masks[stops], masks[starts]))


def fence_holds(book, batches, start, stops, starts, value):
    journey = Journey(book, batches, (start,))
    check_lots(book, (stops, starts))
    masks = journey.field.masks
    return is_fence(journey, masks[stops], masks[starts], value)


def is_fence(journey, stops, starts, value):
    """Whether any value is a fence for the first state and the limits, told by their masks."""
    grid = journey.field
    if not is_ascending(value):
        return False
    fence = [grid.state_of(state) for state in value]
    if None in fence or not is_under(journey.ends[0], fence, stops):
        return False
    behind = next_level(leads_within(journey, stops, starts), set_of(fence))
    return all([is_under(mask, fence, stops) for mask in members(behind)])


def is_under(mask, fence, stops):
    return any([mask & ~state == 0 and state & ~mask & ~stops == 0 for state in fence])


def lies_under(state, fence, stops):
    return any([is_part(state, other) and is_part(less(other, state), stops) for other in fence])


def limited_tops(book, batches, start, stops, starts):
    journey = Journey(book, batches, (start,))
    check_lots(book, (stops, starts))
    masks = journey.field.masks
    return told_tops(journey, masks[stops], masks[starts])


def told_tops(journey, stops, starts):
    """The states reached within the limits that are under no other one.

    A state that is under another one runs the same services outside the stops; so those that do stand together.
    """
    grid = journey.field
    groups = {}
    for mask in members(reached_within(journey, stops, starts)):
        groups.setdefault(mask & ~stops, []).append(mask)
    return grid.ascending([mask for kept in groups for mask in greatest_masks(groups[kept])])


def least_losses(book, batches, start, goal):
    return told_losses(Journey(book, batches, (start, goal)))


def told_losses(journey):
    full = journey.field.full
    return least_that_lead(journey, [(stops, full) for stops in range(full + 1)], 0)


def least_starts(book, batches, start, goal):
    journey = Journey(book, batches, (start, goal))
    full = journey.field.full
    return least_that_lead(journey, [(full, starts) for starts in range(full + 1)], 1)


def least_that_lead(journey, limits, at):
    """Of the limits by which the goal is reached the least lots that stand at an index."""
    found = least_limits(journey, limits)
    return least_lots(journey.field.in_turn([pair[at] for pair in found]))


def least_limits(journey, limits):
    """Of pairs of masks, smaller ones ahead of those around them, the least by which the goal is reached."""
    found = []
    for stops, starts in limits:
        if any([one & ~stops == 0 and other & ~starts == 0 for one, other in found]):
            continue
        if reached_within(journey, stops, starts) >> journey.ends[1] & 1:
            found.append((stops, starts))
    return found


def least_footprints(book, batches, start, goal):
    journey = Journey(book, batches, (start, goal))
    if not is_bendable(book):
        raise NotBendable()
    grid = journey.field
    found = least_limits(journey, footprints(grid, *journey.ends))
    return tuple(sorted([grid.in_turn(pair) for pair in found]))


def footprints(grid, start, goal):
    """What plans may stop and start in all: besides what they have to, any services as often back and forth."""
    needed, wanted = start & ~goal, goal & ~start
    return [(needed | extra & ~needed, wanted | extra & ~wanted) for extra in range(grid.full + 1)]


def least_hitters(lots):
    if not is_sequence(lots):
        raise InvalidQuestion(0)
    for at, lot in enumerate(lots):
        if not is_lot(lot):
            raise InvalidQuestion(at)
    hitters = ((),)
    for lot in lots:
        hitters = least_lots([longer for hitter in hitters for longer in hitting(hitter, lot)])
    return hitters


def hitting(hitter, lot):
    """The hitter itself if it shares a name with the lot, otherwise all hitters with one name of the lot more."""
    if common(hitter, lot) != ():
        return [hitter]
    return [tuple(sorted(hitter + (name,))) for name in lot]


def loss_evidence(book, batches, start, goal):
    journey = Journey(book, batches, (start, goal))
    grid = journey.field
    losses = told_losses(journey)
    plans = [plan_within(journey, 1 << journey.ends[1], grid.masks[loss], grid.full) for loss in losses]
    fences = [told_tops(journey, stops_without(grid, hitter), grid.full) for hitter in least_hitters(losses)]
    return (tuple(plans), tuple(fences))


def stops_without(grid, hitter):
    return grid.full & ~grid.masks[hitter]


def losses_told(book, batches, start, goal, losses, value):
    journey = Journey(book, batches, (start, goal))
    grid = journey.field
    if not is_ascending(losses) or None in [grid.mask_of(lot) for lot in losses] or greatest_lots(losses) != losses:
        return False
    hitters = least_hitters(losses)
    if not is_tuple_of(value, 2) or not is_tuple_of(value[0], len(losses)) or not is_tuple_of(value[1], len(hitters)):
        return False
    plans, fences = value
    if not all([is_plan_losing(journey, plan, grid.masks[loss]) for plan, loss in zip(plans, losses)]):
        return False
    return all([keeps_goal_out(journey, fence, stops_without(grid, hitter)) for fence, hitter in zip(fences, hitters)])


def is_plan_losing(journey, value, stops):
    """Whether any value is a tuple that is a plan from the first to the last state whose loss is within the stops."""
    masks = told_masks(journey.field, value)
    if masks is None or not goes_between(journey.ends, masks):
        return False
    return is_way(leads_within(journey, stops, journey.field.full), masks)


def keeps_goal_out(journey, value, stops):
    """Whether any value is a fence for these stops and all starts, with the goal under none of its states."""
    if not is_fence(journey, stops, journey.field.full, value):
        return False
    fence = [journey.field.masks[state] for state in value]
    return not is_under(journey.ends[1], fence, stops)
