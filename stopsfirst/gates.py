"""Which services have to be started first, and which ones lie on every way."""

from stopsfirst.basics import is_service, without_repeats
from stopsfirst.bending import bend
from stopsfirst.changes import Journey
from stopsfirst.errors import InvalidQuestion, NotBendable
from stopsfirst.losses import calm_plan, least_hitters, plan_within, reached_within
from stopsfirst.lots import least_lots


def service_bit(book, value, at):
    """The mask of the service alone that an argument is to be."""
    if not is_service(book.services, value):
        raise InvalidQuestion(at)
    return 1 << book.services.index(value)


def states_with(grid, bit):
    return grid.above[bit]


def reached_by_lot(journey, lot):
    """What plans reach that run only services of the first state and of a lot."""
    return reached_within(journey, journey.field.full, journey.ends[0] | lot)


def least_openers(journey, base, goals):
    """The least lots outside the first state and a base with which, and the base, one of the goals is reached."""
    grid = journey.field
    outside = grid.full & ~journey.ends[0] & ~base
    lots = [lot for lot in grid.mask_parts[outside] if reached_by_lot(journey, base | lot) & goals]
    return least_lots(grid.in_turn(lots))


def least_carriers(book, batches, start, service):
    journey = Journey(book, batches, (start,))
    bit = service_bit(book, service, 0)
    return least_openers(journey, bit, states_with(journey.field, bit))


def least_gates(book, batches, start, service):
    """A lot is a gate exactly if what is left without it carries no more, so if it hits all that carry."""
    return least_hitters(least_carriers(book, batches, start, service))


def opening_plan(book, batches, start, service, carrier):
    journey = Journey(book, batches, (start,))
    bit = service_bit(book, service, 0)
    if journey.field.mask_of(carrier) is None:
        raise InvalidQuestion(1)
    lot = journey.ends[0] | bit | journey.field.masks[carrier]
    return opened_plan(book, plan_within(journey, states_with(journey.field, bit), journey.field.full, lot))


def opened_plan(book, plan):
    """A plan to a state around the last one that in a bendable rulebook only stops at first; None stays None."""
    if plan is None:
        return None
    try:
        climb = without_repeats(bend(book, plan).climb)
    except NotBendable:
        return plan
    return (plan[0], *climb[1:])


def comes_first(book, batches, start, one, other):
    journey = Journey(book, batches, (start,))
    first = service_bit(book, one, 0)
    second = service_bit(book, other, 1)
    return does_come_first(journey, first, second)


def does_come_first(journey, first, second):
    """Whether no plan all of whose states rest the first service comes to one that runs the second."""
    if journey.ends[0] & first:
        return True
    grid = journey.field
    return reached_by_lot(journey, grid.full & ~first) & states_with(grid, second) == 0


def pairs_outside(book, mask):
    """The pairs of unlike services outside a mask, ascending, each with the two bits."""
    bits = [(name, 1 << at) for at, name in enumerate(book.services) if not mask >> at & 1]
    return [(one, other) for one in bits for other in bits if one != other]


def first_pairs(book, batches, start):
    journey = Journey(book, batches, (start,))
    grid = journey.field
    reached = reached_by_lot(journey, grid.full)
    pairs = []
    for (one, first), (other, second) in pairs_outside(book, journey.ends[0]):
        if reached & states_with(grid, second) and does_come_first(journey, first, second):
            pairs.append((one, other))
    return tuple(pairs)


def least_helpers(book, batches, start, goal):
    journey = Journey(book, batches, (start, goal))
    return least_openers(journey, journey.ends[1], 1 << journey.ends[1])


def least_blocks(book, batches, start, goal):
    """A lot is on every way exactly if what is left without it helps no more, so if it hits all that help."""
    return least_hitters(least_helpers(book, batches, start, goal))


def parting_plan(book, batches, start, runs, rests):
    journey = Journey(book, batches, (start,))
    grid = journey.field
    runner = service_bit(book, runs, 0)
    rester = service_bit(book, rests, 1)
    goals = states_with(grid, runner) & ~states_with(grid, rester)
    return calm_plan(book, plan_within(journey, goals, grid.full, grid.full))


def leaning_pairs(book, batches, start):
    journey = Journey(book, batches, (start,))
    grid = journey.field
    reached = reached_by_lot(journey, grid.full)
    pairs = []
    for (one, first), (other, second) in pairs_outside(book, 0):
        running = reached & states_with(grid, first)
        if running and running & ~states_with(grid, second) == 0:
            pairs.append((one, other))
    return tuple(pairs)
