"""The interface: names, arguments, and where each function and class is defined."""

import importlib
import inspect
import unittest

INTERFACE = {
    "errors": (
        "class StopError", "class InvalidServices(at)", "class InvalidRule(at)", "class InvalidText(at)",
        "class InvalidState(at)", "class NotAllowed(at)", "class InvalidPlan(at)", "class InvalidBatches(at)",
        "class InvalidPrices(at)", "class InvalidCost(at)", "class InvalidQuestion(at)", "class Refused(at)",
        "class NotBendable", "class InvalidCommand",
    ),
    "lots": (
        "is_name(value)", "is_lot(value)", "common(one, other)", "united(one, other)", "less(one, other)",
        "is_part(one, other)", "parts_of(lot)", "lots_between(low, high)", "least_lots(lots)", "greatest_lots(lots)",
    ),
    "rules": (
        "made_rule(services, value)", "allows(rule, state)", "names_of(rule)", "meet_or_join(rule, one, other)",
    ),
    "rulebooks": (
        "class Rulebook(services, rules)", "Rulebook.is_state(self, value)", "Rulebook.broken(self, state)",
        "Rulebook.allows(self, state)", "Rulebook.states(self)", "Rulebook.with_rules(self, rules)",
        "Rulebook.only_rules(self, indexes)", "Rulebook.__eq__(self, other)", "parting_state(one, other)",
        "follows(book, rule)", "steady(book)",
    ),
    "primes": (
        "prime_rules(book)", "prime_of(rule)", "follow_paper(book, rule)", "is_follow_paper(book, rule, value)",
        "witness(book, at)", "needless_alone(book)", "needless_in_turn(book)", "least_rules(book)", "useful(book)",
    ),
    "texts": ("text_of(book)", "read_book(text)"),
    "pairs": (
        "between(book, low, high)", "least_between(book, low, high)", "greatest_between(book, low, high)",
        "middles(book, first, second)", "upper_middles(book, first, second)", "cut_down(book, first, second)",
        "built_up(book, first, second)",
    ),
    "court": (
        "is_bendable(book, *, low=(), high=None)", "is_locked(book, first, second)",
        "bad_pairs(book, *, low=(), high=None)", "locked_changes(book, *, low=(), high=None)", "bad_cuts(book, lot)",
        "bad_joins(book, lot)", "least_bad_pair(book)", "locked_within(book, first, second)", "core(book, lot)",
        "hull(book, lot)",
    ),
    "evidence": (
        "verdict(book)", "is_steps(book, value)", "is_verdict(book, value)", "follow(book, rows, first, second)",
    ),
    "plans": (
        "checked_batches(book, batches)", "checked_slots(book, slots)", "fits(batches, lot)",
        "checked_plan(book, plan)", "plan_changes(book, plan)", "wrong_change(book, plan, batches=None)",
        "wrong_slot(book, plan, slots)", "service_counts(book, plan)", "used_services(book, plan)",
        "kept_services(book, plan)",
    ),
    "bending": (
        "class Bent(book, plan, climb)", "lazy_plan(book, plan)", "tails(book, plan)", "bend(book, plan)",
        "join_climb(book, plan)", "meet_climb(book, plan)",
    ),
    "searching": (
        "find_climb(book, plan, *, keep_first=False, keep_last=False)",
        "count_climbs(book, plan, *, keep_first=False, keep_last=False)",
        "climb_layers(book, plan, *, keep_first=False, keep_last=False)",
        "shows_no_climb(book, plan, layers, *, keep_first=False, keep_last=False)", "unbent_plan(book, batches)",
    ),
    "merging": ("merged_plan(bent)", "short_plan(bent)", "down_up(book, plan)", "up_down(book, plan)"),
    "climbs": (
        "tops(book, start, batches)", "climb_above(book, start, goal, batches)",
        "climb_plan(book, start, goal, climb)",
    ),
    "reach": (
        "distances(book, start, batches, *, stops=False)",
        "shortest_plan(book, start, goal, batches, *, stops=False)",
        "shows_unreached(book, start, goal, batches, value)",
        "shows_far(book, start, goal, number, batches, value, *, stops=False)",
    ),
    "stairs": (
        "beyond_tops(book, start, batches)", "reach_answer(book, start, goal, batches)",
        "shows_outside(book, start, goal, batches, value)", "stairs(book, start, batches)",
        "shows_steps(book, start, goal, batches, value)",
    ),
    "longways": ("long_row(number)", "long_book(number)"),
    "islands": (
        "islands(book, batches)", "direct_pairs(book, batches)", "descent_kind(book, batches, first, second)",
        "final_changes(book, plan, batches)", "centers(book, batches, lot)",
    ),
    "kinds": (
        "open_pair(book, word)", "rule_open_pair(services, rule, word)", "harm(services, rule)", "need_harm(book)",
    ),
    "words": (
        "led_middle(sources, first, second)", "misfit(book, sources)", "source_paper(book)",
        "is_source_paper(book, value)", "pair_paper(book)", "is_pair_paper(book, value)",
    ),
    "derived": (
        "step_services(step)", "step_states(step)", "step_kind(step)", "step_middle(step, first, second)",
        "derive(book)", "is_step_of(step, book)",
    ),
    "costs": (
        "class Cost(services, form)", "Cost.__call__(self, state)", "Cost.__eq__(self, other)",
        "lids_of(costs, states)", "even_middles(book, costs, a, b)", "uneven(book, costs)",
        "under(book, costs, lids)", "steep_changes(book, costs)",
    ),
    "shapes": ("meet_fault(cost)", "join_fault(cost)", "singles(cost)", "refuting(cost, kind)"),
    "lids": (
        "least_lid(book, cost, batches, s, t)", "bent_lid(book, cost, batches, s, t)",
        "lid_holds(book, cost, batches, s, t, sheet)", "bend_under(book, costs, plan)",
        "ladder(book, cost, batches, s)", "front(book, first, second, batches, s, t)",
        "bent_front(book, first, second, batches, s, t)",
    ),
    "losses": (
        "loss_of(book, plan)", "starts_of(book, plan)", "keeps_limits(book, plan, stops, starts)",
        "limited_plan(book, batches, start, goal, stops, starts)",
        "fence_holds(book, batches, start, stops, starts, value)", "lies_under(state, fence, stops)",
        "limited_tops(book, batches, start, stops, starts)", "least_losses(book, batches, start, goal)",
        "least_starts(book, batches, start, goal)", "least_footprints(book, batches, start, goal)",
        "least_hitters(lots)", "loss_evidence(book, batches, start, goal)",
        "losses_told(book, batches, start, goal, losses, value)",
    ),
    "gates": (
        "least_carriers(book, batches, start, service)", "least_gates(book, batches, start, service)",
        "opening_plan(book, batches, start, service, carrier)", "comes_first(book, batches, start, one, other)",
        "first_pairs(book, batches, start)", "least_helpers(book, batches, start, goal)",
        "least_blocks(book, batches, start, goal)", "parting_plan(book, batches, start, runs, rests)",
        "leaning_pairs(book, batches, start)",
    ),
    "prices": (
        "class Prices(starts, stops, *, fee=0, waits=())", "Prices.__eq__(self, other)",
        "Prices.start_price(self, name)", "Prices.stop_price(self, name)", "Prices.wait_of(self, name)",
        "Prices.of_change(self, one, other)", "Prices.of_plan(self, plan)", "Prices.round_trips(self)",
        "Prices.shifted(self, name, by)",
    ),
    "cheapest": (
        "least_prices(book, batches, prices, start)", "least_price(book, batches, prices, start, goal)",
        "cheapest_plan(book, batches, prices, start, goal)", "tight_changes(book, batches, prices, start, goal)",
        "cheapest_three_part(book, batches, prices, start, goal)",
        "cheapest_merged(book, batches, prices, start, goal)",
    ),
    "potentials": (
        "is_potential(book, batches, prices, start, value)", "is_plain_potential(book, batches, prices, start, value)",
        "cheapest_evidence(book, batches, prices, start, goal)",
        "is_cheapest_evidence(book, batches, prices, start, goal, value)",
    ),
    "splitting": (
        "split_plan(book, one, other)", "unsplit_pair(book)", "false_potential(book, *, with_waits=False)",
    ),
    "dearer": ("dearer_prices(book, one, other)",),
    "slots": (
        "slot_states(book, start, slots)", "slot_tops(book, start, slots)", "is_slot_table(book, start, slots, value)",
        "first_slot(book, start, goal, slots)", "slot_plan(book, start, goal, slots)",
        "slot_answer(book, start, goal, slots)", "open_lots(book, start, goal, slots)",
        "barring_lots(book, start, goal, slots)", "losses_borne(book, start, goal, slots)",
        "first_time(book, start, goal, cycle, begin)",
    ),
    "windows": (
        "marked_slots(book, marks, many)", "least_marks(book, start, goal, many)",
        "marks_back(book, goal, marks, many)", "marks_on(book, start, marks, many)",
        "least_batches(book, start, goal)", "lots_up_to(book, weights, limit)",
        "weight_ladder(book, start, goal, weights)", "weight_plan(book, start, goal, weights, many)",
    ),
    "others": (
        "class Contest(book, batches, goals)", "Contest.needed(self, state)", "Contest.table(self)",
        "Contest.reply(self, state, left)", "Contest.__eq__(self, other)", "least_states(book)",
    ),
    "safe": (
        "safe_distance(contest, state, left=None)", "safe_answer(contest, state, left=None)", "stuck_least(contest)",
        "climb_above(contest, state)", "safe_states(contest)", "safe_gap(contest)", "bend_safely(contest, plan)",
        "safety_evidence(contest, state)", "is_safety_evidence(contest, state, value)",
    ),
    "joined": (
        "side_by_side(one, other)", "mix(names, one, other)", "unmixed(book, names)", "free_lots(book)",
        "class Blocks(book)", "Blocks.parts(self, state)", "Blocks.put(self, parts)", "Blocks.part_book(self, at)",
        "Blocks.witnesses(self)", "Blocks.__eq__(self, other)", "blocks_hold(book, blocks, factors, witnesses)",
        "block_plan(book, start, goal, batches)", "block_stuck(book, start, goal, batches)",
        "stuck_holds(book, start, goal, batches, paper)",
    ),
    "hidden": (
        "hidden(book, names)", "lifts(book, names, lot)", "freed(book, names, batches)",
        "outside(book, names, batches)", "lifted(book, names, plan, start, goal)", "fixed(book, running, resting)",
        "copied(book, name, copy)", "guarded(book, name, guard)", "kernel(book)", "is_kernel(book, paper)",
    ),
    "mending": (
        "mended(book, mend)", "remedies(book, start, goal, sort, keep)", "fewest_mend(book, sort, keep, most)",
        "least_mends(book, sort, keep, most)",
    ),
    "trees": ("mend_tree(book, sort, keep, most)", "tree_holds(book, sort, keep, most, value)"),
    "menus": (
        "rules_mended(book, menu, mend)", "fewest_rules(book, menu, most)", "rules_tree(book, menu, most)",
        "rules_tree_holds(book, menu, most, value)",
    ),
    "pins": ("pinned(book, on, off)", "pin_needs(book, keep)", "least_pins(book, keep)", "bad_between(book, keep)"),
    "turned": (
        "sides(book, turned, first, second)", "turned_fault(book, turned, plan, batches=None)",
        "turned_book(book, turned)", "turned_middles(book, turned, first, second)", "turned_locked(book, turned)",
        "bends(book, turned)", "one_way(book, turned, plan)",
    ),
    "turnings": (
        "turnings(book)", "every_turning(book)", "is_turning_paper(book, value)", "sorted_plan(book, plan)",
    ),
    "counting": (
        "strict_counts(book, batches, first, second)", "climb_at(book, batches, first, second, number)",
        "climb_number(book, batches, first, second, climb)", "weak_count(book, batches, first, second, changes)",
        "bent_count(book, batches, first, second, changes)", "balance(book, first, second)",
    ),
    "exchanges": (
        "single_orders(book, first, second)", "order_paper(book, first, second)",
        "exchange_row(book, first, one, other)", "is_order_paper(book, first, second, value)",
    ),
    "works": (
        "class Works(book)", "Works.__len__(self)", "Works.put(self, rule)", "Works.drop(self, at)",
        "Works.swap(self, at, rule)", "Works.undo(self)", "Works.within(self, work)", "Works.verdict(self)",
        "Works.trial(self, rules)", "Works.__eq__(self, other)",
    ),
    "running": (
        "class House(book, state, batches)", "House.left(self)", "House.aim(self, goal)", "House.others(self, state)",
        "House.step(self)", "House.run(self)", "House.__eq__(self, other)",
    ),
    "sheets": (
        "sheet_holds(book, value)", "sheet(book, kind, question)", "wrong_sheets(book, values)",
        "kept_sheets(works, values)",
    ),
    "desk": ("class Desk()", "Desk.say(self, command)", "Desk.__eq__(self, other)"),
}

PROPERTIES = {
    "bending": ("Bent.first_stop", "Bent.last_stop", "Bent.whole"),
    "works": ("Works.current", "Works.made"),
}


class InterfaceTest(unittest.TestCase):
    def test_functions_and_classes(self):
        for module, told in INTERFACE.items():
            found = importlib.import_module("stopsfirst." + module)
            for line in told:
                with self.subTest(module=module, line=line):
                    self.check(found, line)

    def test_properties(self):
        for module, told in PROPERTIES.items():
            found = importlib.import_module("stopsfirst." + module)
            for line in told:
                owner, _, name = line.partition(".")
                self.assertIsInstance(vars(vars(found)[owner])[name], property)

    def check(self, module, line):
        is_class = line.startswith("class ")
        name, bracket, rest = line.removeprefix("class ").partition("(")
        thing = module
        for step in name.split("."):
            self.assertIn(step, vars(thing))
            thing = vars(thing)[step]
        self.assertEqual(inspect.isclass(thing), is_class)
        self.assertEqual(inspect.isfunction(thing), not is_class)
        self.assertEqual(thing.__module__, module.__name__)
        self.assertEqual(thing.__qualname__, name)
        if bracket:
            self.assertEqual(str(inspect.signature(thing)), bracket + rest)


if __name__ == "__main__":
    unittest.main()
