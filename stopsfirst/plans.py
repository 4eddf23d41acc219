"""Plans, and the batches and slots that what they start must fit into."""

from stopsfirst.basics import is_sequence
from stopsfirst.errors import InvalidBatches, InvalidPlan
from stopsfirst.grids import greatest_masks, joined, met, within_one
from stopsfirst.lots import is_lot, is_part


def checked_batches(book, batches):
    masks = batch_masks(book, batches)
    return None if masks is None else book.grid().ascending(masks)


def batch_masks(book, batches):
    """The masks of the checked batches, or None if everything fits."""
    if batches is None:
        return None
    if not is_sequence(batches):
        raise InvalidBatches(0)
    grid = book.grid()
    masks = [grid.mask_of(batch) for batch in batches]
    if None in masks:
        raise InvalidBatches(masks.index(None))
    return greatest_masks([mask for mask in masks if mask])


def checked_slots(book, slots):
    grid = book.grid()
    return tuple([None if masks is None else grid.ascending(masks) for masks in slot_masks(book, slots)])


def slot_masks(book, slots):
    """For each slot what batch_masks tells of it."""
    if not is_sequence(slots):
        raise InvalidBatches(0)
    checked = []
    for at, slot in enumerate(slots):
        try:
            checked.append(batch_masks(book, slot))
        except InvalidBatches:
            raise InvalidBatches(at) from None
    return checked


def fits(batches, lot):
    """Nothing is refused here: what is no batch is just nothing to fit into."""
    if batches is None or lot == ():
        return True
    return is_sequence(batches) and any([is_lot(batch) and is_part(lot, batch) for batch in batches])


def mask_fits(batches, mask):
    """Whether a lot fits; the batches are told by their masks."""
    return batches is None or mask == 0 or within_one(mask, batches)


def fit_table(grid, batches):
    """For each mask whether its lot fits."""
    return [mask_fits(batches, mask) for mask in range(grid.full + 1)]


def checked_plan(book, plan):
    masks = plan_masks(book, plan)
    return book.grid().in_turn(masks)


def plan_masks(book, plan):
    if not is_sequence(plan) or len(plan) == 0:
        raise InvalidPlan(0)
    grid = book.grid()
    masks = [grid.state_of(state) for state in plan]
    if None in masks:
        raise InvalidPlan(masks.index(None))
    return masks


def start_masks(masks):
    """What each change of a plan starts."""
    return [masks[at] & ~masks[at - 1] for at in range(1, len(masks))]


def stop_masks(masks):
    """What each change of a plan stops."""
    return [masks[at - 1] & ~masks[at] for at in range(1, len(masks))]


def plan_changes(book, plan):
    masks = plan_masks(book, plan)
    grid = book.grid()
    return tuple(zip(grid.in_turn(stop_masks(masks)), grid.in_turn(start_masks(masks))))


def wrong_change(book, plan, batches=None):
    started = start_masks(plan_masks(book, plan))
    checked = batch_masks(book, batches)
    return first_misfit(started, [checked] * len(started))


def wrong_slot(book, plan, slots):
    started = start_masks(plan_masks(book, plan))
    checked = slot_masks(book, slots)
    if len(checked) != len(started):
        raise InvalidBatches(min(len(checked), len(started)))
    return first_misfit(started, checked)


def first_misfit(started, slots):
    """The number of the first change whose start does not fit into the batches of its slot, or None."""
    for at, mask in enumerate(started):
        if not mask_fits(slots[at], mask):
            return at
    return None


def service_counts(book, plan):
    masks = plan_masks(book, plan)
    started = start_masks(masks)
    stopped = stop_masks(masks)
    counts = []
    for at, service in enumerate(book.services):
        counts.append((service, times_in(started, 1 << at), times_in(stopped, 1 << at)))
    return tuple(counts)


def times_in(masks, bit):
    return len([mask for mask in masks if mask & bit])


def used_services(book, plan):
    masks = plan_masks(book, plan)
    return book.grid().lots[joined(masks)]


def kept_services(book, plan):
    masks = plan_masks(book, plan)
    return book.grid().lots[met(masks)]
