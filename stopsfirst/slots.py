"""Slots: what can be reached if each change has batches of its own."""

from stopsfirst.bending import bend
from stopsfirst.changes import change_table, leading_into, next_level, rising_table
from stopsfirst.court import is_bendable
from stopsfirst.errors import InvalidBatches, NotBendable
from stopsfirst.grids import greatest_masks, least_masks, members, set_of, state_masks
from stopsfirst.lots import is_ascending
from stopsfirst.merging import merged_plan
from stopsfirst.plans import slot_masks


class Schedule:
    """The changes that each slot lets, as one table a slot, and the states that were asked about, by their masks."""

    def __init__(self, book, states, slots):
        self.field = book.grid()
        self.ends = state_masks(self.field, states)
        self.tables = [change_table(self.field, masks) for masks in slot_masks(book, slots)]


def slot_levels(tables, start):
    """The sets of the states reached by the first slots, from none of them on."""
    levels = [1 << start]
    for table in tables:
        levels.append(next_level(table, levels[-1]))
    return levels


def slot_states(book, start, slots):
    schedule = Schedule(book, (start,), slots)
    levels = slot_levels(schedule.tables, schedule.ends[0])
    return tuple([schedule.field.told_set(level) for level in levels])


def slot_tops(book, start, slots):
    return told_tops(Schedule(book, (start,), slots))


def told_tops(schedule):
    grid = schedule.field
    level = grid.below[schedule.ends[0]] & grid.running_set
    tops = [grid.ascending(greatest_masks(members(level)))]
    for table in schedule.tables:
        level = next_level(rising_table(grid, table), level)
        tops.append(grid.ascending(greatest_masks(members(level))))
    return tuple(tops)


def is_slot_table(book, start, slots, value):
    schedule = Schedule(book, (start,), slots)
    grid = schedule.field
    if not isinstance(value, tuple) or len(value) != len(schedule.tables) + 1:
        return False
    if not all([is_entry(grid, entry) for entry in value]):
        return False
    entries = [set_of([grid.masks[state] for state in entry]) for entry in value]
    if not is_covered(grid, 1 << schedule.ends[0], entries[0]):
        return False
    return all([is_covered(grid, next_level(table, entries[at]), entries[at + 1])
                for at, table in enumerate(schedule.tables)])


def is_entry(grid, value):
    """Whether any value is an ascending tuple of unlike allowed states."""
    return is_ascending(value) and None not in [grid.state_of(state) for state in value]


def is_covered(grid, found, others):
    """Whether each state of a set is a part of one of another set."""
    covered = 0
    for mask in members(others):
        covered |= grid.below[mask]
    return found & ~covered == 0


def first_slot(book, start, goal, slots):
    schedule = Schedule(book, (start, goal), slots)
    for number, level in enumerate(slot_levels(schedule.tables, schedule.ends[0])):
        if level >> schedule.ends[1] & 1:
            return number
    return None


def slot_plan(book, start, goal, slots):
    return told_plan(book, Schedule(book, (start, goal), slots))


def told_plan(book, schedule):
    """A plan that keeps all slots, with its stops in its first and last change if the rulebook lets it, or None."""
    grid = schedule.field
    start, goal = schedule.ends
    levels = slot_levels(schedule.tables, start)
    if not levels[-1] >> goal & 1:
        return None
    way = [goal]
    for at in range(len(schedule.tables) - 1, -1, -1):
        way.append(grid.first_in(leading_into(schedule.tables[at], levels[at], 1 << way[-1])))
    return gathered_plan(book, grid.in_turn(list(reversed(way))))


def gathered_plan(book, plan):
    """The plan with its stops moved to its first and its last change, where the rulebook lets it."""
    try:
        return merged_plan(bend(book, plan))
    except NotBendable:
        return plan


def slot_answer(book, start, goal, slots):
    schedule = Schedule(book, (start, goal), slots)
    if schedule.tables == []:
        raise InvalidBatches(0)
    if not is_bendable(book):
        raise NotBendable()
    plan = told_plan(book, schedule)
    return ("table", told_tops(schedule)) if plan is None else ("plan", plan)


def open_subsets(schedule):
    """For each set of slots, by bits, whether the goal is reached though the other slots start nothing."""
    count = len(schedule.tables)
    idle = change_table(schedule.field, [])
    found = []
    for chosen in range(1 << count):
        tables = [table if chosen >> at & 1 else idle for at, table in enumerate(schedule.tables)]
        found.append(slot_levels(tables, schedule.ends[0])[-1] >> schedule.ends[1] & 1 == 1)
    return found


def told_lots(chosen):
    """Those of some sets of slots, by bits, of which no other one is a proper part, as lots of slots, ascending."""
    return tuple(sorted([tuple(members(mask)) for mask in least_masks(chosen)]))


def open_lots(book, start, goal, slots):
    found = open_subsets(Schedule(book, (start, goal), slots))
    return told_lots([chosen for chosen in range(len(found)) if found[chosen]])


def barring_lots(book, start, goal, slots):
    return told_lots(barring_subsets(open_subsets(Schedule(book, (start, goal), slots))))


def barring_subsets(found):
    """The sets of slots without which the goal is not reached."""
    last = len(found) - 1
    return [chosen for chosen in range(len(found)) if not found[last & ~chosen]]


def losses_borne(book, start, goal, slots):
    found = open_subsets(Schedule(book, (start, goal), slots))
    if not found[-1]:
        return None
    sizes = [len(members(chosen)) for chosen in barring_subsets(found)]
    return min(sizes) - 1 if sizes else len(members(len(found) - 1))


def first_time(book, start, goal, cycle, begin):
    schedule = Schedule(book, (start, goal), cycle)
    if schedule.tables == []:
        raise InvalidBatches(0)
    level = 1 << schedule.ends[0]
    number = begin
    idle = 0
    while not level >> schedule.ends[1] & 1:
        further = next_level(schedule.tables[number % len(schedule.tables)], level)
        idle = idle + 1 if further == level else 0
        if idle == len(schedule.tables):
            return None
        level = further
        number += 1
    return number
