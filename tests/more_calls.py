"""Functions of chapters 11 to 16 with new arguments, lists wherever a list may be passed, for test_again."""

import copy

from stopsfirst import (
    counting, exchanges, hidden, joined, mending, menus, others, pins, safe, sheets, trees, turned, turnings, windows,
)
from stopsfirst.joined import Blocks
from stopsfirst.others import Contest
from stopsfirst.prices import Prices
from stopsfirst.running import House
from stopsfirst.works import Works
from tests.helper import lot, lots

MARKS = (("b", 0), ("b", 1), ("d", 0))


def calls(clash, torn):
    yield from calls_about_windows(clash, torn)
    yield from calls_about_contests(clash)
    yield from calls_about_blocks(clash)
    yield from calls_about_mends(clash, torn)
    yield from calls_about_turns(clash, torn)
    yield from calls_about_orders(clash)
    yield from calls_about_sheets(clash, torn)


def calls_about_windows(clash, torn):
    yield windows.marked_slots, [clash(), MARKS, 3], {}
    yield windows.least_marks, [clash(), lot("ac"), lot("bd"), 2], {}
    yield windows.least_batches, [clash(), lot("ac"), lot("bd")], {}
    yield windows.lots_up_to, [clash(), [3, 1, 2, 0], 3], {}
    yield windows.weight_ladder, [clash(), lot("ac"), lot("bd"), [3, 1, 2, 1]], {}
    yield windows.weight_plan, [clash(), lot("ac"), lot("bd"), [3, 1, 2, 1], 2], {}
    need = type(torn())(list("bac"), [["imply", ["b"], ["a"]]])
    for ask in (windows.marks_back, windows.marks_on):
        yield ask, [need, lot("a"), (("a", 1), ("b", 0)), 2], {}


def calls_about_contests(clash):
    yield Contest, [clash(), list(lots("b a b -")), list(lots("bd ac bd"))], {}
    yield others.least_states, [clash()], {}
    for batches in ([], list(lots("b d ab"))):
        contest = Contest(clash(), copy.copy(batches), list(lots("bd ac")))
        for ask in (Contest.table, safe.stuck_least, safe.safe_states, safe.safe_gap):
            yield ask, [contest], {}
        for ask in (Contest.needed, safe.safe_distance, safe.climb_above, safe.safety_evidence):
            yield ask, [contest, lot("c")], {}
        yield Contest.reply, [contest, lot("bcd"), 2], {}
        yield safe.safe_distance, [contest, lot("c"), 1], {}
        yield safe.safe_answer, [contest, lot("ac"), 0], {}
        yield safe.is_safety_evidence, [contest, lot("c"), ["safe", [[lot("c"), 0]]]], {}
    free = Contest(clash(), None, list(lots("bd")))
    yield safe.bend_safely, [free, list(lots("ac bd c"))], {}


def calls_about_blocks(clash):
    yield joined.side_by_side, [clash(), type(clash())(["z"], [])], {}
    yield joined.mix, [lot("ab"), lot("ac"), lot("bd")], {}
    yield joined.unmixed, [clash(), lot("a")], {}
    yield joined.free_lots, [clash()], {}
    yield Blocks, [clash()], {}
    blocks = Blocks(clash())
    yield Blocks.parts, [blocks, lot("acd")], {}
    yield Blocks.put, [blocks, list(lots("a cd"))], {}
    yield Blocks.part_book, [blocks, 1], {}
    yield Blocks.witnesses, [blocks], {}
    yield joined.blocks_hold, [clash(), list(lots("ab cd")), [list(lots("- a b")), []], []], {}
    for batches in ([], list(lots("b ab d"))):
        for ask in (joined.block_plan, joined.block_stuck):
            yield ask, [clash(), lot("ac"), lot("bd"), copy.copy(batches)], {}
        yield joined.stuck_holds, [clash(), lot("ac"), lot("bd"), copy.copy(batches), [0, list(lots("- a"))]], {}
        for ask in (hidden.freed, hidden.outside):
            yield ask, [clash(), lot("b"), copy.copy(batches)], {}
    yield hidden.hidden, [clash(), lot("b")], {}
    yield hidden.lifts, [clash(), lot("b"), lot("c")], {}
    yield hidden.lifted, [clash(), lot("bd"), [lot("a"), lot("c"), ()], lot("ad"), lot("bd")], {}
    yield hidden.fixed, [clash(), lot("a"), lot("d")], {}
    for ask in (hidden.copied, hidden.guarded):
        yield ask, [clash(), "b", "z"], {}


def calls_about_mends(clash, torn):
    yield hidden.kernel, [torn()], {}
    yield hidden.is_kernel, [torn(), [(), (), (), "a", lot("b")]], {}
    yield mending.mended, [clash(), (lots("-"), lots("c d"))], {}
    yield mending.remedies, [torn(), lot("a"), lot("b"), "both", list(lots("b b"))], {}
    for keep in ([], list(lots("a a b"))):
        for ask in (mending.fewest_mend, mending.least_mends, trees.mend_tree):
            yield ask, [torn(), "bar", copy.copy(keep), 5], {}
            yield ask, [torn(), "both", copy.copy(keep), 1], {}
        yield trees.tree_holds, [torn(), "both", copy.copy(keep), 1, [lot("a"), lot("b"), [[], []]]], {}
    menu = [["imply", ["a"], ["b"]], ["imply", ["b", "a"], []]]
    yield menus.rules_mended, [torn(), copy.deepcopy(menu), ((0,), (1,))], {}
    for ask in (menus.fewest_rules, menus.rules_tree):
        yield ask, [torn(), copy.deepcopy(menu), 0], {}
        yield ask, [torn(), copy.deepcopy(menu), 2], {}
    yield menus.rules_tree_holds, [torn(), copy.deepcopy(menu), 0, [lot("a"), lot("b"), [[], []]]], {}
    yield pins.pinned, [clash(), lot("a"), lot("d")], {}
    for ask in (pins.pin_needs, pins.least_pins, pins.bad_between):
        for keep in (lots("a"), lots("a b"), lots("a a")):
            yield ask, [torn(), list(keep)], {}


def calls_about_turns(clash, torn):
    for ask in (turned.sides, turned.turned_middles):
        yield ask, [clash(), lot("ad"), lot("ac"), lot("bd")], {}
    yield turned.turned_fault, [clash(), lot("ad"), list(lots("ac bd ac")), list(lots("b a b"))], {}
    yield turned.one_way, [clash(), lot("cd"), list(lots("acd bcd acd"))], {}
    yield turnings.sorted_plan, [clash(), list(lots("ac bcd d"))], {}
    for asked in (clash, torn):
        for ask in (turned.turned_book, turned.turned_locked, turned.bends):
            yield ask, [asked(), lot("a")], {}
        for ask in (turnings.turnings, turnings.every_turning):
            yield ask, [asked()], {}
        yield turnings.is_turning_paper, [asked(), ["some", (), list(lots("a b"))]], {}


def calls_about_orders(clash):
    for batches in ([], list(lots("b ab d a"))):
        yield counting.strict_counts, [clash(), copy.copy(batches), lot("c"), lot("acd")], {}
        yield counting.climb_at, [clash(), copy.copy(batches), lot("c"), lot("c"), 0], {}
        yield counting.climb_number, [clash(), copy.copy(batches), lot("c"), lot("c"), [lot("c")]], {}
        for ask in (counting.weak_count, counting.bent_count):
            yield ask, [clash(), copy.copy(batches), lot("c"), lot("acd"), 5], {}
    yield counting.climb_number, [clash(), None, lot("c"), lot("acd"), list(lots("c cd acd"))], {}
    yield counting.balance, [clash(), lot("c"), lot("acd")], {}
    for ask in (exchanges.single_orders, exchanges.order_paper):
        yield ask, [clash(), lot("c"), lot("acd")], {}
    yield exchanges.is_order_paper, [clash(), lot("c"), lot("acd"), ["pairs", []]], {}
    yield exchanges.exchange_row, [clash(), lot("c"), ["a", "d"], ["d", "a"]], {}


def calls_about_sheets(clash, torn):
    batches = list(lots("b d a"))
    prices = Prices([("a", 1)], [("b", 2)])
    asked = {
        "court": (), "rule": (["imply", ["a"], ["b"]],), "climb": (list(lots("ac bd")),),
        "reach": (lot("ac"), lot("bd"), batches), "kinds": (), "safe": (batches, list(lots("ac")), lot("bd")),
        "fence": (batches, lot("ac"), lot("bd"), lot("ac"), lot("b")), "price": (batches, prices, lot("ac"), lot("bd")),
    }
    for kind in asked:
        yield sheets.sheet, [clash(), kind, copied(asked[kind])], {}
        value = sheets.sheet(clash(), kind, copied(asked[kind]))
        yield sheets.sheet_holds, [clash(), copied(value)], {}
    values = [sheets.sheet(clash(), kind, copied(asked[kind])) for kind in asked]
    yield sheets.wrong_sheets, [clash(), [copied(value) for value in values] + [None]], {}
    yield sheets.kept_sheets, [Works(torn()), [copied(value) for value in values]], {}
    yield sheets.kept_sheets, [Works(clash()), [copied(value) for value in values] + [None]], {}
    yield House, [clash(), lot("ac"), batches], {}
    yield Works.trial, [Works(torn()), [["imply", ["a"], []], ["imply", [], []]]], {}


def copied(value):
    """A value with new lists in it; prices stay, since they do not change."""
    if isinstance(value, (list, tuple)):
        return type(value)(copied(thing) for thing in value)
    return value
