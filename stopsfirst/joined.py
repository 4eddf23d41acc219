"""Rulebooks side by side, and the blocks of services that a rulebook falls into."""

from stopsfirst.basics import is_sequence, is_tuple_of
from stopsfirst.errors import InvalidQuestion, InvalidState
from stopsfirst.grids import state_masks
from stopsfirst.lots import common, is_ascending, is_lot, least_lots, less, parts_of, united
from stopsfirst.plans import checked_batches
from stopsfirst.reach import distances, shortest_plan, shows_unreached
from stopsfirst.rulebooks import Rulebook, is_index


def side_by_side(one, other):
    if common(one.services, other.services) != ():
        raise InvalidQuestion(1)
    return Rulebook(one.services + other.services, one.rules + other.rules)


def mix(names, one, other):
    return united(common(names, one), less(other, names))


def names_mask(book, names):
    """The mask of what is to be a lot of services that is passed with a rulebook."""
    mask = book.grid().mask_of(names)
    if mask is None:
        raise InvalidQuestion(1)
    return mask


def unmixed(book, names):
    grid = book.grid()
    mask = names_mask(book, names)
    return None if is_free(grid, mask) else first_unmixed(grid, mask)


def first_unmixed(grid, mask):
    """The first pair of allowed states whose mix is not allowed, for services that are not free."""
    for a in grid.running:
        for b in grid.running:
            if not grid.allowed[mask & a | b & ~mask]:
                return grid.in_turn((a, b))
    return None


def is_free(grid, mask):
    """All mixes are allowed exactly if there are as many states as there are of them."""
    inside = len(set([state & mask for state in grid.running]))
    outside = len(set([state & ~mask for state in grid.running]))
    return inside * outside == len(grid.running)


def free_lots(book):
    grid = book.grid()
    return tuple([grid.lots[mask] for mask in grid.ordered if is_free(grid, mask)])


class Blocks:
    """The least lots of services that are free, and what runs in each of them."""

    def __init__(self, book):
        if not book.states():
            raise InvalidQuestion(0)
        self.book = book
        self.blocks = least_lots([lot for lot in free_lots(book) if lot])
        self.factors = tuple([factor_of(book, block) for block in self.blocks])

    def __eq__(self, other):
        return isinstance(other, Blocks) and self.book == other.book

    def parts(self, state):
        if not self.book.is_state(state):
            raise InvalidState(0)
        return tuple([common(block, state) for block in self.blocks])

    def put(self, parts):
        if not is_sequence(parts) or len(parts) != len(self.blocks):
            raise InvalidQuestion(0)
        state = ()
        for at, part in enumerate(parts):
            if not is_lot(part) or part not in self.factors[at]:
                raise InvalidState(at)
            state = united(state, part)
        return state

    def part_book(self, at):
        if not is_index(at, self.blocks):
            raise InvalidQuestion(0)
        return Rulebook(self.blocks[at], (("table", self.blocks[at], self.factors[at]),))

    def witnesses(self):
        grid = self.book.grid()
        return tuple([(lot, *first_unmixed(grid, grid.masks[lot])) for lot in lots_to_part(self.blocks)])


def factor_of(book, block):
    """What runs in a block in the allowed states, ascending, each once."""
    return tuple(sorted(set([common(block, state) for state in book.states()])))


def lots_to_part(blocks):
    """Block by block, the lots that have the first service of the block, but not all, ascending."""
    return [lot for block in blocks for lot in parts_of(block) if lot != block and common(lot, block[:1]) != ()]


def blocks_hold(book, blocks, factors, witnesses):
    if not are_blocks(book, blocks) or not are_factors(book, blocks, factors):
        return False
    lots = lots_to_part(blocks)
    if not is_tuple_of(witnesses, len(lots)):
        return False
    return all([is_witness(book.grid(), lot, witness) for lot, witness in zip(lots, witnesses)])


def are_blocks(book, value):
    """Whether any value is ascending lots such that each service is in just one, and none is empty."""
    if not is_ascending(value) or () in value:
        return False
    return tuple(sorted([name for block in value for name in block])) == book.services


def are_factors(book, blocks, value):
    """Whether any value has just the allowed states' parts in blocks, and these can be put together in any way."""
    if not is_tuple_of(value, len(blocks)) or not all([is_ascending(factor) for factor in value]):
        return False
    states = book.states()
    many = 1
    for block, factor in zip(blocks, value):
        many = many * len(factor)
        if not all([common(block, state) in factor for state in states]):
            return False
    return many != 0 and many == len(states)


def is_witness(grid, lot, value):
    """Whether any value is the lot with two allowed states whose mix is not allowed."""
    if not is_tuple_of(value, 3) or not is_lot(value[0]) or value[0] != lot:
        return False
    a, b = grid.state_of(value[1]), grid.state_of(value[2])
    if a is None or b is None:
        return False
    mask = grid.masks[lot]
    return not grid.allowed[mask & a | b & ~mask]


class Parting:
    """A way that is asked about, in parts: for each block its rulebook, its start, its goal and its batches."""

    def __init__(self, book, start, goal, batches):
        state_masks(book.grid(), (start, goal))
        checked = checked_batches(book, batches)
        blocks = Blocks(book)
        self.books = [blocks.part_book(at) for at in range(len(blocks.blocks))]
        self.starts = blocks.parts(start)
        self.goals = blocks.parts(goal)
        self.batches = [parts_of_batches(block, checked) for block in blocks.blocks]


def parts_of_batches(block, batches):
    return None if batches is None else [common(block, batch) for batch in batches]


def block_plan(book, start, goal, batches):
    parting = Parting(book, start, goal, batches)
    plan = [start]
    for at, part_book in enumerate(parting.books):
        steps = shortest_plan(part_book, parting.starts[at], parting.goals[at], parting.batches[at])
        if steps is None:
            return None
        rest = less(plan[-1], part_book.services)
        plan.extend([united(rest, part) for part in steps[1:]])
    return tuple(plan)


def block_stuck(book, start, goal, batches):
    parting = Parting(book, start, goal, batches)
    for at, part_book in enumerate(parting.books):
        reached = [state for state, _ in distances(part_book, parting.starts[at], parting.batches[at])]
        if parting.goals[at] not in reached:
            return (at, tuple(reached))
    return None


def stuck_holds(book, start, goal, batches, paper):
    parting = Parting(book, start, goal, batches)
    if not is_tuple_of(paper, 2) or not is_index(paper[0], parting.books) or not is_ascending(paper[1]):
        return False
    at = paper[0]
    return shows_unreached(parting.books[at], parting.starts[at], parting.goals[at], parting.batches[at], paper[1])
