"""The interface: names, arguments, and where each function and class is defined."""

import importlib
import inspect
import unittest

INTERFACE = {
    "errors": (
        "class StopError", "class InvalidServices(at)", "class InvalidRule(at)", "class InvalidText(at)",
        "class InvalidState(at)", "class NotAllowed(at)", "class InvalidPlan(at)", "class InvalidBatches(at)",
        "class InvalidPrices(at)", "class InvalidCost(at)", "class InvalidQuestion(at)", "class Refused(at)",
        "class NotBendable", "class InvalidCommand",
    ),
    "lots": (
        "is_name(value)", "is_lot(value)", "common(one, other)", "united(one, other)", "less(one, other)",
        "is_part(one, other)", "parts_of(lot)", "lots_between(low, high)", "least_lots(lots)", "greatest_lots(lots)",
    ),
    "rules": (
        "made_rule(services, value)", "allows(rule, state)", "names_of(rule)", "meet_or_join(rule, one, other)",
    ),
    "rulebooks": (
        "class Rulebook(services, rules)", "Rulebook.is_state(self, value)", "Rulebook.broken(self, state)",
        "Rulebook.allows(self, state)", "Rulebook.states(self)", "Rulebook.with_rules(self, rules)",
        "Rulebook.only_rules(self, indexes)", "Rulebook.__eq__(self, other)", "parting_state(one, other)",
        "follows(book, rule)", "steady(book)",
    ),
    "primes": (
        "prime_rules(book)", "prime_of(rule)", "follow_paper(book, rule)", "is_follow_paper(book, rule, value)",
        "witness(book, at)", "needless_alone(book)", "needless_in_turn(book)", "least_rules(book)", "useful(book)",
    ),
    "texts": ("text_of(book)", "read_book(text)"),
    "pairs": (
        "between(book, low, high)", "least_between(book, low, high)", "greatest_between(book, low, high)",
        "middles(book, first, second)", "upper_middles(book, first, second)", "cut_down(book, first, second)",
        "built_up(book, first, second)",
    ),
    "court": (
        "is_bendable(book, *, low=(), high=None)", "is_locked(book, first, second)",
        "bad_pairs(book, *, low=(), high=None)", "locked_changes(book, *, low=(), high=None)", "bad_cuts(book, lot)",
        "bad_joins(book, lot)", "least_bad_pair(book)", "locked_within(book, first, second)", "core(book, lot)",
        "hull(book, lot)",
    ),
}


class InterfaceTest(unittest.TestCase):
    def test_functions_and_classes(self):
        for module, told in INTERFACE.items():
            found = importlib.import_module("stopsfirst." + module)
            for line in told:
                with self.subTest(module=module, line=line):
                    self.check(found, line)

    def check(self, module, line):
        is_class = line.startswith("class ")
        name, bracket, rest = line.removeprefix("class ").partition("(")
        thing = module
        for step in name.split("."):
            self.assertIn(step, vars(thing))
            thing = vars(thing)[step]
        self.assertEqual(inspect.isclass(thing), is_class)
        self.assertEqual(inspect.isfunction(thing), not is_class)
        self.assertEqual(thing.__module__, module.__name__)
        self.assertEqual(thing.__qualname__, name)
        if bracket:
            self.assertEqual(str(inspect.signature(thing)), bracket + rest)


if __name__ == "__main__":
    unittest.main()
