"""Plans and climbs on which costs stay as low as possible."""

from stopsfirst.basics import is_integer, is_tuple_of
from stopsfirst.bending import bend
from stopsfirst.changes import Journey, first_way, goes_between, is_way, reached_set, rising_table, told_masks
from stopsfirst.costs import check_costs, lids_of, under, value_lists
from stopsfirst.court import is_bendable
from stopsfirst.errors import NotBendable
from stopsfirst.grids import members, set_of
from stopsfirst.plans import plan_masks


class Climate(Journey):
    """The changes that the batches let, with the values that some costs have in each state.

    The ways that are looked for are plans, or climbs: these begin at any state within the first one, stop nothing and
    end at any state around the last one.
    """

    def __init__(self, book, costs, batches, states, climbing):
        self.numbers = value_lists(book, costs)
        Journey.__init__(self, book, batches, states)
        self.climbing = climbing
        if climbing:
            self.leads = rising_table(self.field, self.leads)


def steps_of(climate, at):
    """The values of one cost that allowed states have, ascending."""
    return sorted(set([climate.numbers[at][mask] for mask in climate.field.running]))


def states_under(climate, lids):
    """The set of the allowed states in which no cost exceeds its lid."""
    found = climate.field.running
    for numbers, lid in zip(climate.numbers, lids):
        found = [mask for mask in found if numbers[mask] <= lid]
    return set_of(found)


def begins(climate):
    first = climate.ends[0]
    return climate.field.below[first] if climate.climbing else 1 << first


def goals(climate):
    last = climate.ends[-1]
    return climate.field.above[last] if climate.climbing else 1 << last


def gets_there(climate, lids):
    """Whether a way leads from the first to the last state under the lids, both included."""
    inside = states_under(climate, lids)
    if not all([inside >> mask & 1 for mask in climate.ends]):
        return False
    return reached_set(climate.leads, begins(climate), inside) & goals(climate) != 0


def least_step(climate):
    """The least lid of the one cost under which a way leads there, or None."""
    for number in steps_of(climate, 0):
        if gets_there(climate, (number,)):
            return number
    return None


def first_way_under(climate, number):
    inside = states_under(climate, (number,))
    return climate.field.in_turn(first_way(climate.field, climate.leads, begins(climate), goals(climate), inside))


def least_lid(book, cost, batches, s, t):
    climate = Climate(book, (cost,), batches, (s, t), False)
    grid = climate.field
    lid = least_step(climate)
    if lid is None:
        return (None, None, grid.told_set(reached_set(climate.leads, begins(climate), grid.running_set)))
    closed = reached_set(climate.leads, begins(climate), states_under(climate, (lid - 1,)))
    return (lid, first_way_under(climate, lid), grid.told_set(closed))


def bent_lid(book, cost, batches, s, t):
    climate = Climate(book, (cost,), batches, (s, t), True)
    lid = least_step(climate)
    return None if lid is None else (lid, first_way_under(climate, lid))


def lid_holds(book, cost, batches, s, t, sheet):
    climate = Climate(book, (cost,), batches, (s, t), False)
    if not is_tuple_of(sheet, 3):
        return False
    number, plan, closed = sheet
    if number is None:
        return plan is None and is_closed(climate, closed, climate.field.running_set)
    if not is_integer(number) or not is_way_inside(climate, plan, states_under(climate, (number,))):
        return False
    return is_closed(climate, closed, states_under(climate, (number - 1,)))


def is_way_inside(climate, value, inside):
    """Whether any value is a tuple that is a plan from the first to the last state by states of a set."""
    masks = told_masks(climate.field, value)
    if masks is None or not goes_between(climate.ends, masks) or set_of(masks) & ~inside:
        return False
    return is_way(climate.leads, masks)


def is_closed(climate, value, inside):
    """Whether any value has unlike states of a set that no change leaves for others of it, not with the last state."""
    masks = told_masks(climate.field, value)
    if masks is None:
        return False
    found = set_of(masks)
    start, goal = climate.ends
    if len(members(found)) != len(masks) or found >> goal & 1 or inside & ~found & 1 << start:
        return False
    return reached_set(climate.leads, found, inside) == found


def bend_under(book, costs, plan):
    check_costs(book, costs)
    states = book.grid().in_turn(plan_masks(book, plan))
    lower = under(book, costs, lids_of(costs, states))
    if not is_bendable(lower):
        raise NotBendable()
    return bend(lower, states)


def ladder(book, cost, batches, s):
    climate = Climate(book, (cost,), batches, (s,), False)
    grid = climate.field
    rungs = []
    known = 0
    for number in steps_of(climate, 0):
        found = reached_set(climate.leads, begins(climate), states_under(climate, (number,)))
        if found != known:
            rungs.append((number, grid.told_set(found & ~known)))
            known = found
    if known != grid.running_set:
        rungs.append((None, grid.told_set(grid.running_set & ~known)))
    return tuple(rungs)


def front(book, first, second, batches, s, t):
    return front_of(Climate(book, (first, second), batches, (s, t), False))


def bent_front(book, first, second, batches, s, t):
    return front_of(Climate(book, (first, second), batches, (s, t), True))


def front_of(climate):
    """While the first lid rises, the second one only ever falls; only where it falls a pair is told."""
    seconds = steps_of(climate, 1)
    many = len(seconds)
    pairs = []
    for number in steps_of(climate, 0):
        before = many
        while many > 0 and gets_there(climate, (number, seconds[many - 1])):
            many -= 1
        if many < before:
            pairs.append((number, seconds[many]))
    return tuple(pairs)
