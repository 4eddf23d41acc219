"""[6] and [8]: rules, their kept form, and what they allow."""

import random
import unittest

from stopsfirst.errors import InvalidRule
from stopsfirst.lots import is_lot
from stopsfirst.rules import allows, made_rule, meet_or_join, names_of
from tests import helper
from tests.helper import lot, lots, raised

SERVICES = lot("abcd")

# Pairs: what is passed, and its kept form.
KEPT = (
    (("imply", (), ()), ("imply", (), ())),
    (["imply", ["b", "a"], ["d", "c"]], ("imply", lot("ab"), lot("cd"))),
    (("imply", ("c",), ["c"]), ("imply", lot("c"), lot("c"))),
    (("imply", ["d", "a", "c", "b"], ("d", "c", "b", "a")), ("imply", lot("abcd"), lot("abcd"))),
    (("cap", (), 0), ("cap", (), 0)),
    (["cap", [["b", 1000000], ("a", 0)], 1000000], ("cap", (("a", 0), ("b", 1000000)), 1000000)),
    (("cut", [], 0), ("cut", (), 0)),
    (["cut", [("d", "c", 1000000), ["b", "a", 1], ["a", "c", 2]], 1000000],
     ("cut", (("a", "b", 1), ("a", "c", 2), ("c", "d", 1000000)), 1000000)),
    (("feed", (), (), 0), ("feed", (), (), 0)),
    (["feed", [["d", 1], ["b", 0]], (("c", 1000000), ("a", 3)), -1000000],
     ("feed", (("b", 0), ("d", 1)), (("a", 3), ("c", 1000000)), -1000000)),
    (("feed", [], [("a", 1)], 1000000), ("feed", (), (("a", 1),), 1000000)),
    (("table", (), ()), ("table", (), ())),
    (("table", [], [[]]), ("table", (), ((),))),
    (["table", ["b", "a"], [["b", "a"], ("b",), []]], ("table", lot("ab"), lots("- ab b"))),
    (("table", ["d", "a"], []), ("table", lot("ad"), ())),
)

# Values that are no rules about a, b, c, d.
WRONG = (
    (), [], ("imply",), ("imply", ()), ("imply", (), (), ()), ("Imply", (), ()), ("", (), ()), ("need", "a", "b"),
    ("implyx", (), ()), (b"imply", (), ()), (None, (), ()), (("imply",), (), ()), (["imply"], (), ()), (0, (), ()),
    ({}, (), ()), {"imply": 1}, "imply", "abc", ("cap", ()), ("cap", (), 0, 0), ("cut", ()), ("cut", (), 0, 0),
    ("feed", (), ()), ("feed", (), 0), ("feed", (), (), 0, 0), ("table", ()), ("table", (), (), ()),
    ("imply", "ab", ()), ("imply", (), "ab"), ("imply", None, ()), ("imply", (), 0), ("imply", {"a"}, ()),
    ("imply", {"a": 1}, ()), ("imply", ["e"], ()), ("imply", [], ["e"]), ("imply", ["a", "a"], ()),
    ("imply", (), ["b", "a", "b"]), ("imply", [["a"]], ()), ("imply", [1], ()), ("imply", [None], ()),
    ("imply", [()], ()), ("imply", ["A"], ()), ("imply", ["a", ""], ()), ("imply", [{}], ()),
    ("cap", (), -1), ("cap", (), 1000001), ("cap", (), True), ("cap", (), False), ("cap", (), None),
    ("cap", (), 1.0), ("cap", (), "1"), ("cap", (), ()), ("cap", None, 1), ("cap", "ab", 1), ("cap", ["a"], 1),
    ("cap", [["a"]], 1), ("cap", [["a", 1, 1]], 1), ("cap", ["a1"], 1), ("cap", [["a", -1]], 1),
    ("cap", [["a", 1000001]], 1), ("cap", [["a", True]], 1), ("cap", [["a", False]], 1), ("cap", [["a", "1"]], 1),
    ("cap", [["a", None]], 1), ("cap", [["a", 1.0]], 1), ("cap", [["e", 1]], 1), ("cap", [[1, "a"]], 1),
    ("cap", [["a", 1], ["a", 2]], 1), ("cap", [["a", 1], ["b", 1], ["a", 1]], 1), ("cap", [[["a"], 1]], 1),
    ("cap", [{"a": 1}], 1), ("cap", {"a": 1}, 1), ("cap", [["a", []]], 1), ("cap", [None], 1), ("cap", 1, ()),
    ("cut", (), -1), ("cut", (), 1000001), ("cut", (), True), ("cut", (), None), ("cut", None, 1),
    ("cut", [["a", "b"]], 1), ("cut", [["a", "b", 1, 1]], 1), ("cut", [["a", "b", 0]], 1),
    ("cut", [["a", "b", -1]], 1), ("cut", [["a", "b", 1000001]], 1), ("cut", [["a", "b", True]], 1),
    ("cut", [["a", "b", None]], 1), ("cut", [["a", "a", 1]], 1), ("cut", [["a", "e", 1]], 1),
    ("cut", [["a", 1, "b"]], 1), ("cut", [["a", "b", 1], ["a", "b", 2]], 1), ("cut", [["a", ["b"], 1]], 1),
    ("cut", [["a", "b", 1], ["b", "a", 1]], 1), ("cut", [["b", "a", 1], ["c", "d", 1], ["a", "b", 3]], 1),
    ("cut", ["ab1"], 1), ("cut", [None], 1), ("cut", [["a", 1]], 1), ("cut", [[["a", "b"], 1]], 1),
    ("feed", (), (), 1000001), ("feed", (), (), -1000001), ("feed", (), (), True), ("feed", (), (), None),
    ("feed", (), (), "0"), ("feed", None, (), 0), ("feed", (), None, 0), ("feed", [["a", -1]], (), 0),
    ("feed", (), [["a", -1]], 0), ("feed", [["a", 1000001]], (), 0), ("feed", (), [["a", 1000001]], 0),
    ("feed", [["a", 1]], [["a", 1]], 0), ("feed", [["a", 1], ["a", 1]], (), 0),
    ("feed", [["b", 1], ["a", 1]], [["c", 1], ["b", 2]], 0), ("feed", (), [["a", 1], ["a", 1]], 0),
    ("feed", [["e", 1]], (), 0), ("feed", (), [["e", 1]], 0), ("feed", [["a"]], (), 0), ("feed", (), (), ()),
    ("feed", (), [["a", True]], 0), ("feed", [["a", False]], (), 0),
    ("table", None, ()), ("table", (), None), ("table", "ab", ()), ("table", ["e"], ()), ("table", ["a", "a"], ()),
    ("table", ["a"], [["b"]]), ("table", ["a", "b"], ["a"]), ("table", ["a", "b"], ["ab"]),
    ("table", ["a"], [["a", "a"]]), ("table", ["a"], [[], []]), ("table", ["a"], [(), []]),
    ("table", ["a", "b"], [["a", "b"], ["b", "a"]]), ("table", ["a", "b"], [("a",), (), ["a"]]),
    ("table", ["a"], [None]), ("table", ["a"], [1]), ("table", ["a"], {"a": 1}), ("table", ["a"], [{"a"}]),
    ("table", (), [["a"]]), ("table", ["a"], [[1]]), ("table", ["a"], [[["a"]]]), ("table", [1], ()),
)


class KeptFormTest(unittest.TestCase):
    def assert_same(self, told, kept):
        self.assertEqual(told, kept)
        self.assertEqual(repr(told), repr(kept))

    def test_kept_forms(self):
        for value, kept in KEPT:
            self.assert_same(made_rule(SERVICES, value), kept)

    def test_kept_forms_stay(self):
        for _, kept in KEPT:
            self.assert_same(made_rule(SERVICES, kept), kept)

    def test_arguments_stay(self):
        for value, _ in KEPT:
            before = repr(value)
            made_rule(SERVICES, value)
            self.assertEqual(repr(value), before)

    def test_later_changes_have_no_effect(self):
        xs = ["b"]
        pair = ["a", 1]
        told = [["b"], []]
        rules = [made_rule(SERVICES, rule) for rule in (["imply", xs, xs], ["cap", [pair], 1], ["table", xs, told])]
        xs.append("a")
        pair[1] = 5
        told[1].append("b")
        told.append(["a"])
        self.assertEqual(rules, [("imply", ("b",), ("b",)), ("cap", (("a", 1),), 1), ("table", ("b",), ((), ("b",)))])

    def test_by_name(self):
        self.assertEqual(made_rule(value=("cap", (), 1), services=()), ("cap", (), 1))

    def test_other_services(self):
        self.assertEqual(made_rule(("ab", "b"), ["imply", ["b"], ["ab"]]), ("imply", ("b",), ("ab",)))
        self.assertEqual(raised(made_rule, ("ab",), ["imply", ["a"], []]), (InvalidRule, 0))

    def test_many_entries(self):
        services = lot("abcdefghij")
        every = helper.all_lots(services)
        self.assertEqual(made_rule(services, ("table", services, every[::-1])), ("table", services, tuple(every)))
        told = [(x, y, 1) for x in services for y in services if x > y]
        self.assertEqual(len(made_rule(services, ("cut", told, 0))[1]), 45)


class WrongRuleTest(unittest.TestCase):
    def test_wrong_rules(self):
        for value in WRONG + helper.ODD_VALUES:
            self.assertEqual(raised(made_rule, SERVICES, value), (InvalidRule, 0), repr(value))

    def test_what_equals_everything(self):
        odd = helper.Weird()
        for value in (odd, (odd, (), ()), ("imply", odd, ()), ("imply", [odd], ()), ("cap", (), odd),
                      ("cap", [["a", odd]], 0), ("cap", [odd], 0), ("cut", [["a", odd, 1]], 0), ("table", (), odd),
                      ("feed", (), (), odd), ("table", ["a"], [odd]), ("table", ["a"], [[odd]])):
            self.assertEqual(raised(made_rule, SERVICES, value), (InvalidRule, 0))

    def test_the_greatest_numbers(self):
        for most, more in ((1000000, 1000001),):
            for good, bad in (
                (("cap", [("a", most)], most), ("cap", [("a", most)], more)),
                (("cap", [("a", most)], 0), ("cap", [("a", more)], 0)),
                (("cut", [("a", "b", most)], most), ("cut", [("a", "b", most)], more)),
                (("cut", [("a", "b", 1)], 0), ("cut", [("a", "b", 0)], 0)),
                (("cut", [("a", "b", most)], 0), ("cut", [("a", "b", more)], 0)),
                (("feed", [("a", most)], [("b", most)], most), ("feed", [("a", most)], [("b", most)], more)),
                (("feed", (), (), -most), ("feed", (), (), -more)),
                (("feed", [("a", most)], (), 0), ("feed", [("a", more)], (), 0)),
                (("feed", (), [("a", most)], 0), ("feed", (), [("a", more)], 0)),
            ):
                self.assertIsNone(raised(made_rule, SERVICES, good))
                self.assertEqual(raised(made_rule, SERVICES, bad), (InvalidRule, 0))


class KeptRuleTest(unittest.TestCase):
    def random_rules(self):
        chance = random.Random(11)
        return [made_rule(SERVICES, helper.random_rule(chance, SERVICES)) for _ in range(250)]

    def test_allows(self):
        for rule in self.random_rules() + [kept for _, kept in KEPT]:
            for state in helper.all_lots("abcde"):
                self.assertIs(allows(rule, state), helper.rule_allows(rule, state), (rule, state))

    def test_allows_at_the_edges(self):
        self.assertIs(allows(("imply", (), ()), ()), False)
        self.assertIs(allows(("imply", (), ()), lot("a")), False)
        self.assertIs(allows(("imply", lot("a"), lot("a")), lot("a")), True)
        self.assertIs(allows(("cap", (), 0), lot("ab")), True)
        self.assertIs(allows(("cap", (("a", 2),), 2), lot("a")), True)
        self.assertIs(allows(("cap", (("a", 3),), 2), lot("a")), False)
        self.assertIs(allows(("cut", (("a", "b", 2),), 1), lot("ab")), True)
        self.assertIs(allows(("cut", (("a", "b", 2),), 1), ()), True)
        self.assertIs(allows(("cut", (("a", "b", 2),), 1), lot("b")), False)
        self.assertIs(allows(("feed", (), (), -1), ()), False)
        self.assertIs(allows(("feed", (("a", 1),), (("b", 2),), -1), lot("ab")), True)
        self.assertIs(allows(("feed", (("a", 1),), (("b", 2),), -2), lot("ab")), False)
        self.assertIs(allows(("table", (), ()), ()), False)
        self.assertIs(allows(("table", (), ((),)), lot("a")), True)
        self.assertIs(allows(("table", lot("a"), ((),)), lot("a")), False)
        self.assertIs(allows(rule=("table", lot("a"), ((),)), state=lot("b")), True)

    def test_names(self):
        for rule in self.random_rules():
            told = {"imply": lambda: rule[1] + rule[2], "table": lambda: rule[1],
                    "cap": lambda: [pair[0] for pair in rule[1]],
                    "cut": lambda: [name for triple in rule[1] for name in triple[:2]],
                    "feed": lambda: [pair[0] for pair in rule[1] + rule[2]]}[rule[0]]()
            self.assertEqual(names_of(rule), tuple(sorted(set(told))), rule)
            self.assertIs(is_lot(names_of(rule)), True)

    def test_names_of_rules_without_services(self):
        for rule in (("imply", (), ()), ("cap", (), 1), ("cut", (), 1), ("feed", (), (), 1), ("table", (), ((),))):
            self.assertEqual(names_of(rule), ())
        self.assertEqual(names_of(("cap", (("a", 0),), 1)), lot("a"))
        self.assertEqual(names_of(("table", lot("ab"), ())), lot("ab"))

    def test_meet_or_join(self):
        every = helper.all_lots("abcd")
        answers = set()
        for rule in self.random_rules()[:80]:
            for one in every:
                for other in every:
                    told = None
                    if helper.rule_allows(rule, helper.meet(one, other)):
                        told = "meet"
                    elif helper.rule_allows(rule, helper.join(one, other)):
                        told = "join"
                    self.assertEqual(meet_or_join(rule, one, other), told)
                    answers.add(told)
                    both = helper.rule_allows(rule, one) and helper.rule_allows(rule, other)
                    if both and rule[0] != "table":
                        self.assertIsNotNone(meet_or_join(rule, one, other))
        self.assertEqual(answers, {"meet", "join", None})

    def test_a_table_with_neither(self):
        rule = ("table", lot("abc"), lots("ab bc"))
        self.assertIsNone(meet_or_join(rule, lot("ab"), lot("bc")))
        self.assertEqual(meet_or_join(rule, lot("ab"), lot("ab")), "meet")
        self.assertEqual(meet_or_join(("table", lot("abc"), lots("ab abc bc")), lot("ab"), lot("bc")), "join")


if __name__ == "__main__":
    unittest.main()
