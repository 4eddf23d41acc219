"""Marks, batches and weights: how little the changes have to be let start for a goal to be reached."""

from stopsfirst.basics import is_number, is_sequence, is_service, is_tuple_of
from stopsfirst.changes import change_table
from stopsfirst.court import is_bendable
from stopsfirst.errors import InvalidQuestion, NotBendable, Refused
from stopsfirst.grids import greatest_masks, joined, least_masks, members, met, state_masks, within_one
from stopsfirst.kinds import open_pair_of
from stopsfirst.slots import gathered_plan, slot_levels


def marked_slots(book, marks, many):
    lots = book.grid().in_turn(mark_masks(book, marks, many))
    return tuple([(lot,) if lot else () for lot in lots])


def mark_masks(book, marks, many):
    """For each slot the mask of the services that are marked with it."""
    if not isinstance(marks, tuple):
        raise InvalidQuestion(0)
    masks = [0] * many
    for at, mark in enumerate(marks):
        if not is_mark(book.services, mark, many) or at > 0 and mark <= marks[at - 1]:
            raise InvalidQuestion(at)
        masks[mark[1]] |= 1 << book.services.index(mark[0])
    return masks


def is_mark(services, value, many):
    return is_tuple_of(value, 2) and is_service(services, value[0]) and is_number(value[1]) and value[1] < many


def least_marks(book, start, goal, many):
    """A climb starts no service twice, so no service need be marked twice.

    Marks are kept as numbers: behind the bits of the services that slot 0 marks stand those of slot 1, and so on.
    """
    grid = book.grid()
    a, b = state_masks(grid, (start, goal))
    if not is_bendable(book):
        raise NotBendable()
    size = len(book.services)
    tables = [change_table(grid, [mask]) for mask in range(grid.full + 1)]
    leading = []
    for code in mark_codes(size, many):
        slots = [tables[code >> size * at & grid.full] for at in range(many)]
        if slot_levels(slots, a)[-1] >> b & 1:
            leading.append(code)
    return tuple(sorted([told_marks(book.services, code) for code in least_masks(leading)]))


def mark_codes(size, many):
    """All marks of so many services by which no service is marked twice."""
    codes = [0]
    for service in range(size):
        codes = codes + [code | 1 << size * at + service for code in codes for at in range(many)]
    return codes


def told_marks(services, code):
    size = len(services)
    return tuple(sorted([(services[bit % size], bit // size) for bit in members(code)]))


def marks_back(book, goal, marks, many):
    grid = book.grid()
    way = state_masks(grid, (goal,))
    masks = mark_masks(book, marks, many)
    if open_pair_of(grid, "meet") is not None:
        raise Refused(0)
    for mask in reversed(masks):
        way.append(met(members(grid.above[way[-1] & ~mask] & grid.running_set)))
    return grid.in_turn(list(reversed(way)))


def marks_on(book, start, marks, many):
    grid = book.grid()
    way = state_masks(grid, (start,))
    masks = mark_masks(book, marks, many)
    if open_pair_of(grid, "join") is not None:
        raise Refused(0)
    for mask in masks:
        way.append(joined(members(grid.below[way[-1] | mask] & grid.running_set)))
    return grid.in_turn(way)


def least_batches(book, start, goal):
    """What a climb adds never overlaps, and batches of any plan let a climb, so only what climbs add is looked at."""
    grid = book.grid()
    a, b = state_masks(grid, (start, goal))
    if not is_bendable(book):
        raise NotBendable()
    found = batches_of_climbs(grid, a, b)
    least = [batches for batches in found if not any([is_less(other, batches) for other in found])]
    return tuple(sorted([grid.ascending(batches) for batches in least]))


def batches_of_climbs(grid, start, goal):
    """What the climbs from within one state up to around another one add, each as an ascending tuple of masks.

    Greater states have the greater masks, so that all climbs to a state are known before it is gone on from.
    """
    climbs = {mask: {} for mask in grid.running}
    found = {}
    for mask in sorted(grid.running):
        if mask & ~start == 0:
            climbs[mask][()] = True
        for batches in list(climbs[mask]):
            if goal & ~mask == 0:
                found[batches] = True
                continue
            for other in members(grid.above[mask] & grid.running_set):
                if other != mask:
                    longer = tuple(sorted(batches + (other & ~mask,)))
                    climbs[other][longer] = True
    return list(found)


def is_less(one, other):
    """Whether batches, told by their masks, are less than other ones."""
    return one != other and all([within_one(mask, other) for mask in one])


def mask_weights(book, weights):
    """For each mask what the lot weighs."""
    if not is_sequence(weights):
        raise InvalidQuestion(0)
    for at, weight in enumerate(weights):
        if not is_number(weight):
            raise InvalidQuestion(at)
    if len(weights) != len(book.services):
        raise InvalidQuestion(len(book.services))
    sums = [0]
    for weight in weights:
        sums = sums + [total + weight for total in sums]
    return sums


def lots_up_to(book, weights, limit):
    sums = mask_weights(book, weights)
    return book.grid().ascending(greatest_masks([mask for mask in range(1, len(sums)) if sums[mask] <= limit]))


def weight_ladder(book, start, goal, weights):
    grid = book.grid()
    a, b = state_masks(grid, (start, goal))
    rounds = lighter_rounds(grid, mask_weights(book, weights), a, len(grid.running))
    if a == b:
        return ((0, 0),)
    return tuple([(at + 1, lighter[b][0]) for at, lighter in enumerate(rounds) if b in lighter])


def lighter_rounds(grid, sums, start, many):
    """For each number of changes, from 1 on, the states that are come to with a lighter heaviest change than before.

    Each round is a dict that has, for such a state, this weight and the state before. There are at most so many
    rounds, and none behind the last one in which anything becomes lighter.
    """
    best = {start: 0}
    rounds = [{start: (0, None)}]
    while rounds[-1] and len(rounds) <= many:
        lighter = {}
        for mask in rounds[-1]:
            for other in grid.running:
                weight = max(best[mask], sums[other & ~mask])
                known = lighter[other][0] if other in lighter else best.get(other)
                if known is None or weight < known:
                    lighter[other] = (weight, mask)
        for other in lighter:
            best[other] = lighter[other][0]
        rounds.append(lighter)
    return rounds[1:]


def weight_plan(book, start, goal, weights, many):
    grid = book.grid()
    a, b = state_masks(grid, (start, goal))
    way = [b]
    for lighter in reversed(lighter_rounds(grid, mask_weights(book, weights), a, many)):
        if way[-1] in lighter:
            way.append(lighter[way[-1]][1])
    return gathered_plan(book, grid.in_turn(list(reversed(way))))
