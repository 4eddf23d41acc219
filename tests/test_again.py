"""[2]: what functions tell, and that neither they nor later changes to an argument change anything."""

import copy
import unittest

from stopsfirst import (
    bending, cheapest, climbs, costs, court, dearer, derived, evidence, gates, islands, kinds, lids, longways, losses,
    lots as lots_module, merging, pairs, plans, potentials, primes, reach, rulebooks, rules, searching, shapes, sheets,
    slots, splitting, stairs, texts, words,
)
from stopsfirst.bending import Bent
from stopsfirst.costs import Cost
from stopsfirst.joined import Blocks
from stopsfirst.others import Contest
from stopsfirst.prices import Prices
from stopsfirst.rulebooks import Rulebook
from stopsfirst.running import House
from stopsfirst.works import Works
from tests import more_calls
from tests.helper import lot, lots

RULES = [["imply", ["b", "a"], []], ["imply", [], ["d", "c"]], ["cap", [["d", 1], ["c", 1]], 2]]
TABLE = [["table", ["b", "a"], [["b"], ["a"]]]]


def clash():
    return Rulebook(["d", "c", "b", "a"], RULES)


def torn():
    return Rulebook(["b", "a"], TABLE)


def calls():
    """Functions with new arguments, lists wherever a list may be passed."""
    for asked in (clash, torn):
        for ask in (
            rulebooks.steady, primes.prime_rules, primes.needless_alone, primes.needless_in_turn, primes.least_rules,
            primes.useful, texts.text_of, court.is_bendable, court.bad_pairs, court.locked_changes,
            court.least_bad_pair, evidence.verdict, Rulebook.states,
        ):
            yield ask, [asked()], {}
        for ask in (court.bad_cuts, court.bad_joins, court.core, court.hull, Rulebook.broken, Rulebook.allows,
                    Rulebook.is_state):
            yield ask, [asked(), lot("ab")], {}
        for ask in (court.is_bendable, court.bad_pairs, court.locked_changes):
            yield ask, [asked()], {"low": (), "high": lot("ab")}
        yield searching.unbent_plan, [asked(), [lot("b"), lot("a")]], {}
    yield from calls_about_rules()
    yield from calls_about_plans()
    yield from calls_about_reach()
    yield from calls_about_kinds()
    yield from calls_about_costs()
    yield from calls_about_losses()
    yield from calls_about_prices()
    yield from calls_about_slots()
    yield from more_calls.calls(clash, torn)


def calls_about_rules():
    for ask in (lots_module.least_lots, lots_module.greatest_lots):
        yield ask, [list(lots("b ab a b"))], {}
    for ask in (lots_module.common, lots_module.united, lots_module.less, lots_module.lots_between):
        yield ask, [lot("ab"), lot("abc")], {}
    yield lots_module.parts_of, [lot("abc")], {}
    for rule in RULES + TABLE:
        yield rules.made_rule, [lot("abcd"), copy.deepcopy(rule)], {}
        yield rulebooks.follows, [clash(), copy.deepcopy(rule)], {}
    yield primes.follow_paper, [clash(), ["imply", ["b", "a"], ["c"]]], {}
    yield primes.is_follow_paper, [clash(), ["imply", ["b", "a"], ["c"]], ["state", lot("c")]], {}
    yield primes.witness, [clash(), 1], {}
    yield primes.prime_of, [("table", lot("ab"), lots("a b"))], {}
    yield rulebooks.parting_state, [clash(), Rulebook(list("abcd"), [])], {}
    yield Rulebook, [list("cba"), [["imply", ["b", "a"], []]]], {}
    yield Rulebook.with_rules, [clash(), copy.deepcopy(RULES)], {}
    yield Rulebook.only_rules, [clash(), [1, 0, 1]], {}
    yield texts.read_book, ["services b a\nneed b a"], {}
    for ask in (pairs.between, pairs.least_between, pairs.greatest_between):
        yield ask, [clash(), (), lot("abc")], {}
    for ask in (pairs.middles, pairs.upper_middles, pairs.cut_down, pairs.built_up, court.is_locked,
                court.locked_within):
        yield ask, [clash(), lot("ac"), lot("bd")], {}
        yield ask, [torn(), lot("a"), lot("b")], {}
    rows = evidence.verdict(clash())[1]
    yield evidence.is_steps, [clash(), rows], {}
    yield evidence.is_verdict, [clash(), ["steps", list(rows)]], {}
    yield evidence.follow, [clash(), rows, lot("ac"), lot("bd")], {}


def calls_about_plans():
    for ask in (plans.checked_plan, plans.plan_changes, plans.wrong_change, plans.service_counts, plans.used_services,
                plans.kept_services, bending.lazy_plan, bending.tails, bending.bend, bending.join_climb,
                bending.meet_climb, searching.find_climb, searching.count_climbs, searching.climb_layers,
                merging.down_up, merging.up_down):
        yield ask, [clash(), list(lots("ac bd ad"))], {}
        yield ask, [clash(), list(lots("cd c"))], {}
    yield plans.checked_batches, [clash(), list(lots("b ab - b"))], {}
    yield plans.checked_slots, [clash(), [None, [], list(lots("b ab - b"))]], {}
    yield plans.fits, [list(lots("b ab")), lot("b")], {}
    yield plans.wrong_change, [clash(), list(lots("ac bd ad"))], {"batches": list(lots("bd"))}
    yield plans.wrong_slot, [clash(), list(lots("ac bd ad")), [None, list(lots("b b"))]], {}
    yield Bent, [clash(), list(lots("ac bd ad")), list(lots("c cd acd"))], {}
    yield merging.merged_plan, [Bent(clash(), list(lots("ac bd ad")), list(lots("c cd acd")))], {}
    yield merging.short_plan, [Bent(clash(), list(lots("ac bd ad")), list(lots("c cd acd")))], {}
    layers = [[lot("a"), lot("a")], [lot("a")]]
    yield searching.shows_no_climb, [torn(), list(lots("a b")), layers], {"keep_first": True, "keep_last": True}


def calls_about_reach():
    for batches in (None, list(lots("b a b -"))):
        for ask in (climbs.tops, reach.distances, stairs.beyond_tops, stairs.stairs):
            yield ask, [clash(), lot("c"), copy.copy(batches)], {}
        for ask in (climbs.climb_above, reach.shortest_plan, stairs.reach_answer):
            yield ask, [clash(), lot("c"), lot("ac"), copy.copy(batches)], {}
        for ask in (reach.shows_unreached, stairs.shows_outside):
            yield ask, [clash(), lot("c"), lot("d"), copy.copy(batches), list(lots("ac bc c ac"))], {}
        yield reach.distances, [clash(), lot("c"), copy.copy(batches)], {"stops": True}
        yield reach.shows_far, [clash(), lot("c"), lot("d"), 1, copy.copy(batches), [(lot("c"), 0)]], {"stops": True}
        steps = [list(lots("c c")), list(lots("ac bc"))]
        yield stairs.shows_steps, [clash(), lot("c"), lot("d"), copy.copy(batches), steps], {}
    yield climbs.climb_plan, [clash(), lot("ac"), lot("d"), list(lots("c cd acd"))], {}


def calls_about_kinds():
    yield longways.long_row, [3], {}
    yield longways.long_book, [2], {}
    for batches in ([], list(lots("b a b -"))):
        yield islands.islands, [clash(), copy.copy(batches)], {}
        yield islands.direct_pairs, [clash(), copy.copy(batches)], {}
        yield islands.centers, [clash(), copy.copy(batches), lot("ab")], {}
    yield islands.descent_kind, [clash(), [], 1, 0], {}
    yield islands.final_changes, [clash(), list(lots("acd ac c cd")), [lot("d")]], {}
    for asked in (clash, torn):
        for ask in (kinds.need_harm, words.source_paper, derived.derive):
            yield ask, [asked()], {}
        yield kinds.open_pair, [asked(), "either"], {}
        yield words.misfit, [asked(), lot("a")], {}
        yield words.is_source_paper, [asked(), ["way", ["a"]]], {}
    rule = ["cap", [["b", 2], ["c", 3], ["a", 2]], 4]
    yield kinds.rule_open_pair, [list("dcba"), copy.deepcopy(rule), "join"], {}
    yield kinds.harm, [list("dcba"), copy.deepcopy(rule)], {}
    yield words.led_middle, [lot("a"), lot("ab"), lot("bc")], {}
    pairs_only = [["imply", ["b", "a"], []], ["imply", [], ["d", "a"]]]
    yield words.pair_paper, [Rulebook(list("abcd"), pairs_only)], {}
    yield words.is_pair_paper, [Rulebook(list("abcd"), pairs_only), ["torn", list("abc"), lot("a"), lot("b")]], {}
    step = ("copy", ("led", list("ba"), [["imply", ["a"], ["b"]]], ()), "a", "z")
    for ask in (derived.step_services, derived.step_states, derived.step_kind):
        yield ask, [copy.deepcopy(step)], {}
    yield derived.step_middle, [copy.deepcopy(step), ("a", "b", "z"), ()], {}
    yield derived.is_step_of, [copy.deepcopy(step), clash()], {}


def calls_about_costs():
    form = ("most", (("sum", (("a", 2), ("b", -1))), ("cut", (("a", "c", 3),)), ("told", ((lot("ac"), 4),))))
    cost, other = Cost(list("cba"), form), Cost(list("ba"), ("peak", (("a", 1),), (("b", 2),)))
    yield Cost, [list("cba"), form], {}
    yield Cost.__call__, [cost, lot("abz")], {}
    yield costs.lids_of, [[cost, other], list(lots("a ab -"))], {}
    yield costs.even_middles, [clash(), [cost, other], lot("ac"), lot("bd")], {}
    yield costs.uneven, [clash(), [cost, other]], {}
    yield costs.under, [clash(), [cost, other], [1, 2]], {}
    yield costs.steep_changes, [clash(), [cost]], {}
    for ask in (shapes.meet_fault, shapes.join_fault, shapes.singles):
        yield ask, [cost], {}
    for kind in shapes.KINDS:
        yield shapes.refuting, [cost, kind], {}
    for batches in ([], list(lots("b a d -"))):
        for ask in (lids.least_lid, lids.bent_lid):
            yield ask, [clash(), cost, copy.copy(batches), lot("ac"), lot("bd")], {}
        yield lids.lid_holds, [clash(), cost, copy.copy(batches), lot("c"), lot("d"), [1, list(lots("c d")), []]], {}
        yield lids.ladder, [clash(), cost, copy.copy(batches), lot("c")], {}
        for ask in (lids.front, lids.bent_front):
            yield ask, [clash(), cost, other, copy.copy(batches), lot("c"), lot("bc")], {}
    yield lids.bend_under, [clash(), [other], list(lots("ac bd ad"))], {}


def calls_about_losses():
    for ask in (losses.loss_of, losses.starts_of):
        yield ask, [clash(), list(lots("ac bd ad"))], {}
    yield losses.keeps_limits, [clash(), list(lots("ac bd ad")), lot("abc"), lot("abd")], {}
    yield losses.lies_under, [lot("a"), list(lots("b ab")), lot("b")], {}
    yield losses.least_hitters, [list(lots("bc ab abc"))], {}
    for batches in ([], list(lots("b ab d c"))):
        yield losses.limited_plan, [clash(), copy.copy(batches), lot("ac"), lot("bd"), lot("ac"), lot("bd")], {}
        yield losses.limited_tops, [clash(), copy.copy(batches), lot("ac"), lot("a"), lot("bd")], {}
        fence = list(lots("ac acd bcd"))
        yield losses.fence_holds, [clash(), copy.copy(batches), lot("ac"), lot("a"), lot("bd"), fence], {}
        for ask in (losses.least_losses, losses.least_starts, losses.least_footprints, losses.loss_evidence,
                    gates.least_helpers, gates.least_blocks):
            yield ask, [clash(), copy.copy(batches), lot("ac"), lot("bd")], {}
        told = [clash(), copy.copy(batches), lot("ac"), lot("bd"), [lot("ac")], [[list(lots("ac bd"))], []]]
        yield losses.losses_told, told, {}
        for ask in (gates.least_carriers, gates.least_gates):
            yield ask, [clash(), copy.copy(batches), lot("ac"), "b"], {}
        yield gates.opening_plan, [clash(), copy.copy(batches), lot("ac"), "b", lot("d")], {}
        for ask in (gates.comes_first, gates.parting_plan):
            yield ask, [clash(), copy.copy(batches), lot("ac"), "b", "d"], {}
        for ask in (gates.first_pairs, gates.leaning_pairs):
            yield ask, [clash(), copy.copy(batches), lot("ac")], {}


def calls_about_prices():
    lists = [[["b", 2], ["a", -1]], [["a", 3], ["b", -2]]]
    yield Prices, copy.deepcopy(lists), {"fee": 1, "waits": [["c", 4]]}
    prices = Prices(*lists, fee=1, waits=[["d", 4], ["b", 1]])
    yield Prices.start_price, [prices, "a"], {}
    yield Prices.of_change, [prices, lot("a"), lot("bc")], {}
    yield Prices.of_plan, [prices, list(lots("a bc a"))], {}
    yield Prices.round_trips, [prices], {}
    yield Prices.shifted, [prices, "a", 5], {}
    for batches in ([], list(lots("b ab d c"))):
        yield cheapest.least_prices, [clash(), copy.copy(batches), prices, lot("ac")], {}
        for ask in (cheapest.least_price, cheapest.cheapest_plan, cheapest.tight_changes, cheapest.cheapest_three_part,
                    cheapest.cheapest_merged, potentials.cheapest_evidence):
            yield ask, [clash(), copy.copy(batches), prices, lot("ac"), lot("bd")], {}
        value = [[list(lots("ac bd"))], [[lot("ac"), 0]]]
        yield potentials.is_cheapest_evidence, [clash(), copy.copy(batches), prices, lot("ac"), lot("bd"), value], {}
        for ask in (potentials.is_potential, potentials.is_plain_potential):
            yield ask, [clash(), copy.copy(batches), prices, lot("ac"), [[lot("ac"), 0]]], {}
    for asked in (clash, torn):
        yield splitting.unsplit_pair, [asked()], {}
        yield splitting.false_potential, [asked()], {"with_waits": True}
        yield splitting.false_potential, [asked()], {}
    yield splitting.split_plan, [clash(), lot("ac"), lot("bd")], {}
    yield dearer.dearer_prices, [clash(), list(lots("ac c bc")), list(lots("ac bc"))], {}
    yield dearer.dearer_prices, [clash(), list(lots("ac c ac")), list(lots("ac acd ac"))], {}


def calls_about_slots():
    for told in ([], [None, [], list(lots("b ab - b"))], [list(lots("d b")), list(lots("b a")), [lot("c")]]):
        for ask in (slots.slot_states, slots.slot_tops):
            yield ask, [clash(), lot("ac"), copy.deepcopy(told)], {}
        for ask in (slots.first_slot, slots.slot_plan, slots.open_lots, slots.barring_lots, slots.losses_borne):
            yield ask, [clash(), lot("ac"), lot("bd"), copy.deepcopy(told)], {}
        yield slots.is_slot_table, [clash(), lot("ac"), copy.deepcopy(told), [[lot("ac")]]], {}
        if told:
            yield slots.slot_answer, [clash(), lot("ac"), lot("bd"), copy.deepcopy(told)], {}
            yield slots.first_time, [clash(), lot("ac"), lot("bd"), copy.deepcopy(told), 7], {}


def plainly(value):
    """A value as text, with what the package's own objects show."""
    if isinstance(value, (list, tuple)):
        return (type(value).__name__, [plainly(thing) for thing in value])
    if isinstance(value, dict):
        return {key: plainly(thing) for key, thing in value.items()}
    if isinstance(value, Rulebook):
        return ("Rulebook", plainly(value.services), plainly(value.rules))
    if isinstance(value, Cost):
        return ("Cost", plainly(value.services), plainly(value.form))
    if isinstance(value, Prices):
        return ("Prices", plainly([value.starts, value.stops, value.waits, value.fee, value.of_change((), lot("ab"))]))
    if isinstance(value, Bent):
        return ("Bent", plainly(value.plan), plainly(value.climb), plainly(value.whole))
    if type(value) in KEPT:
        return (type(value).__name__, plainly(kept_by(value)))
    return repr(value)


KEPT = {
    Contest: ("book", "batches", "goals"), Blocks: ("book", "blocks", "factors"), Works: ("current", "made"),
    House: ("book", "batches", "state", "goal", "history"),
}


def kept_by(value):
    """What the attributes of an object of the package are."""
    return tuple(getattr(value, name) for name in KEPT[type(value)])


def is_plain(value):
    """Whether nothing is in it but tuples, strings, integers, True, False, None, and the package's own objects."""
    if type(value) is tuple:
        return all(is_plain(thing) for thing in value)
    if type(value) is Rulebook:
        return is_plain(value.services) and is_plain(value.rules)
    if type(value) is Cost:
        return is_plain(value.services) and is_plain(value.form)
    if type(value) is Prices:
        return is_plain((value.starts, value.stops, value.waits, value.fee))
    if type(value) is Bent:
        return all(is_plain(told) for told in (value.plan, value.climb, value.first_stop, value.last_stop, value.whole))
    if type(value) in KEPT:
        return is_plain(kept_by(value))
    return type(value) in (str, int, bool, type(None))


def spoil(value):
    """Changes every list in it."""
    for thing in value:
        if isinstance(thing, (list, tuple)):
            spoil(thing)
    if isinstance(value, list):
        value.reverse()
        value.append("spoilt")


class AgainTest(unittest.TestCase):
    def test_all_calls(self):
        for ask, args, more in calls():
            with self.subTest(ask=ask.__name__):
                before = plainly([args, more])
                told = ask(*args, **more)
                self.assertTrue(is_plain(told) or ask in (sheets.sheet, sheets.kept_sheets))
                self.assertEqual(plainly([args, more]), before)
                first = plainly(told)
                self.assertEqual(plainly(ask(*args, **more)), first)
                self.assertEqual(plainly([args, more]), before)
                held = (Rulebook, Bent, Cost, Prices, *KEPT)
                spoil([args[1:] if isinstance(args[0], held) else args, list(more.values())])
                self.assertEqual(plainly(told), first)
                if isinstance(told, Rulebook):
                    self.assertEqual(told.states(), Rulebook(told.services, told.rules).states())

    def test_rulebooks_stay_as_they_are(self):
        for ask, args, more in calls():
            if isinstance(args[0], Rulebook):
                fresh = Rulebook(args[0].services, args[0].rules)
                ask(*args, **more)
                self.assertEqual(args[0], fresh)
                self.assertEqual(args[0].states(), fresh.states())


if __name__ == "__main__":
    unittest.main()
