"""[2], [7] and [9]: rulebooks."""

import unittest

from stopsfirst.errors import InvalidQuestion, InvalidRule, InvalidServices, InvalidState
from stopsfirst.rulebooks import Rulebook, follows, parting_state, steady
from tests import helper
from tests.helper import Weird, lot, lots, raised

BOOKS = helper.random_books(21, 60) + helper.random_books(22, 20, "abc") + helper.random_books(23, 10, "a")
GOOD = ("imply", ["a"], ["b"])


class ServicesTest(unittest.TestCase):
    def test_services_are_a_lot(self):
        self.assertEqual(Rulebook(["b", "c", "a"], []).services, lot("abc"))
        self.assertEqual(Rulebook(("b", "ab", "a"), ()).services, ("a", "ab", "b"))
        self.assertEqual(Rulebook(["abcde"], []).services, ("abcde",))
        self.assertIs(type(Rulebook(["b", "a"], []).services), tuple)

    def test_wrong_services(self):
        for services, at in (
            ([], 0), ((), 0), (None, 0), ("abc", 0), ({"a"}, 0), ({"a": 1}, 0), (5, 0), (True, 0), (iter("a"), 0),
            (["A"], 0), ([""], 0), (["a", "b", "a"], 2), (["a", "a", "A"], 1), (["a", "B", "a"], 1),
            (["a", 1], 1), (["a", None, "a"], 1), (["a", ["b"]], 1), (["a", ("b",)], 1), (["a", b"b"], 1),
            (["a", "abcdef"], 1), (["a", True], 1), ([Weird()], 0), (["a", Weird()], 1),
            (list("abcdefghijk"), 10), (list("abcdefghija"), 10), (list("abcdefghijkA"), 10),
            (list("abcdefghi") + ["I", "k", "l"], 9), (list("abcdefghij") + [None], 10),
            (list("abcdefghija") + ["b"], 10), (list("abcdefaghijkl"), 6), (Weird(), 0),
        ):
            self.assertEqual(raised(Rulebook, services, []), (InvalidServices, at), repr(services))

    def test_ten_services(self):
        self.assertEqual(Rulebook(list("jihgfedcba"), []).services, lot("abcdefghij"))


class RulesTest(unittest.TestCase):
    def test_rules_are_kept_in_their_order(self):
        book = Rulebook(["b", "a"], [["imply", ["b", "a"], []], ("cap", [["b", 1], ["a", 2]], 2), ["imply", (), ()]])
        self.assertEqual(book.rules, (("imply", lot("ab"), ()), ("cap", (("a", 2), ("b", 1)), 2), ("imply", (), ())))
        self.assertIs(type(book.rules), tuple)

    def test_a_rule_may_come_twice(self):
        self.assertEqual(Rulebook(["a", "b"], [GOOD, GOOD]).rules, (("imply", ("a",), ("b",)),) * 2)

    def test_wrong_rules(self):
        for rules, at in (
            (None, 0), ("", 0), ({}, 0), (5, 0), (False, 0), (iter([]), 0), ({"imply": 1}, 0), (Weird(), 0),
            ([None], 0), ([GOOD, ("imply", ["c"], [])], 1), ([GOOD, GOOD, ()], 2), ([GOOD, "imply", None], 1),
            (("imply", (), ()), 0), ([("cap", [], -1)], 0), ([GOOD, Weird()], 1), ([GOOD, ("cap", [], True)], 1),
        ):
            self.assertEqual(raised(Rulebook, ["a", "b"], rules), (InvalidRule, at), repr(rules))

    def test_more_than_thirty_rules(self):
        self.assertEqual(len(Rulebook(["a", "b"], [GOOD] * 70).rules), 70)

    def test_by_name(self):
        self.assertEqual(Rulebook(rules=[GOOD], services=["a", "b"]).rules, (("imply", ("a",), ("b",)),))


class EqualityTest(unittest.TestCase):
    def test_equal(self):
        one = Rulebook(["a", "b"], [["imply", ["b", "a"], []]])
        other = Rulebook(("b", "a"), (("imply", ("a", "b"), ()),))
        self.assertIs(one == other, True)
        self.assertIs(one != other, False)
        self.assertIs(one == one, True)

    def test_unlike(self):
        one = Rulebook(["a", "b"], [GOOD])
        two = Rulebook(["a", "b"], [("imply", ["b"], []), GOOD])
        for other in (Rulebook(["a", "b", "c"], [GOOD]), Rulebook(["a", "b"], []), Rulebook(["a", "b"], [GOOD, GOOD]),
                      Rulebook(["a", "b"], [("imply", ["b"], ["a"])]), two):
            self.assertIs(one == other, False)
            self.assertIs(one != other, True)
        self.assertIs(two == Rulebook(["a", "b"], [GOOD, ("imply", ["b"], [])]), False)

    def test_the_same_states_do_not_make_them_equal(self):
        self.assertIs(Rulebook(["a"], []) == Rulebook(["a"], [("cap", [], 0)]), False)

    def test_values_of_other_kinds(self):
        book = Rulebook(["a"], [])
        for value in helper.ODD_VALUES + ((("a",), ()), book.services, book.rules, "a", Weird()):
            self.assertIs(book == value, False)
            self.assertIs(book != value, True)


class StatesTest(unittest.TestCase):
    def test_states_broken_allows(self):
        for services, rules in BOOKS:
            book = Rulebook(services, rules)
            self.assertEqual(book.states(), tuple(helper.allowed(services, rules)))
            for state in helper.all_lots(services):
                told = tuple(at for at, rule in enumerate(rules) if not helper.rule_allows(rule, state))
                self.assertEqual(book.broken(state), told)
                self.assertIs(book.allows(state), told == ())

    def test_the_same_question_again(self):
        book = Rulebook(*BOOKS[3])
        for _ in range(3):
            self.assertEqual(book.states(), tuple(helper.allowed(*BOOKS[3])))
        self.assertEqual(book, Rulebook(*BOOKS[3]))

    def test_no_rules_and_no_state(self):
        self.assertEqual(Rulebook(["b", "a"], []).states(), lots("- a ab b"))
        book = Rulebook(["a", "b"], [("imply", (), ()), ("table", ["a"], [])])
        self.assertEqual(book.states(), ())
        self.assertEqual(book.broken(()), (0, 1))
        self.assertIs(book.allows(lot("a")), False)

    def test_ten_services(self):
        book = Rulebook(list("abcdefghij"), [("cap", [["a", 1]], 0)])
        self.assertEqual(book.states(), tuple(x for x in helper.all_lots("abcdefghij") if "a" not in x))

    def test_is_state(self):
        book = Rulebook(lot("abcd"), [("imply", (), ())])
        for state in helper.all_lots("abcd"):
            self.assertIs(book.is_state(state), True)
        for value in helper.ODD_VALUES + (lot("ae"), ("a", "ab"), list("ab"), Weird(), ("a", Weird())):
            self.assertIs(book.is_state(value), False, repr(value))

    def test_what_is_no_state(self):
        book = Rulebook(lot("abcd"), [])
        for value in helper.ODD_VALUES + (lot("ae"), list("ab"), Weird(), (Weird(),)):
            self.assertEqual(raised(book.broken, value), (InvalidState, 0))
            self.assertEqual(raised(book.allows, value), (InvalidState, 0))
        self.assertEqual(book.broken(state=()), ())
        self.assertIs(book.allows(state=()), True)
        self.assertIs(book.is_state(value=()), True)


class FurtherRulesTest(unittest.TestCase):
    def test_with_rules(self):
        book = Rulebook(lot("ab"), [GOOD])
        more = book.with_rules([["imply", ["b"], []], GOOD])
        self.assertEqual(more, Rulebook(lot("ab"), [GOOD, ("imply", ["b"], []), GOOD]))
        self.assertEqual(more.states(), ((),))
        self.assertEqual(book, Rulebook(lot("ab"), [GOOD]))
        self.assertEqual(book.states(), lots("- ab b"))
        self.assertEqual(book.with_rules(()), book)
        self.assertEqual(book.with_rules(rules=()), book)

    def test_with_wrong_rules(self):
        for own in ([], [GOOD], [GOOD] * 3):
            book = Rulebook(lot("ab"), own)
            for value in (None, "", {}, 0, True, iter([]), Weird()):
                self.assertEqual(raised(book.with_rules, value), (InvalidRule, len(own)))
            self.assertEqual(raised(book.with_rules, [None]), (InvalidRule, len(own)))
            self.assertEqual(raised(book.with_rules, [GOOD, ("imply", ["c"], ()), 0]), (InvalidRule, len(own) + 1))
            self.assertEqual(book.rules, Rulebook(lot("ab"), own).rules)

    def test_only_rules(self):
        rules = [("imply", ["a"], ["b"]), ("imply", ["b"], []), ("cap", [], 0), ("imply", ["b"], [])]
        book = Rulebook(lot("ab"), rules)
        for indexes, told in (
            ([], []), ((), []), ([1], [1]), ((2, 0), [0, 2]), ([3, 3, 1, 3], [1, 3]), ([3, 2, 1, 0], [0, 1, 2, 3]),
        ):
            self.assertEqual(book.only_rules(indexes), Rulebook(lot("ab"), [rules[at] for at in told]))
        self.assertEqual(book.only_rules(indexes=[0]), Rulebook(lot("ab"), rules[:1]))
        self.assertEqual(len(book.rules), 4)

    def test_only_wrong_rules(self):
        book = Rulebook(lot("ab"), [GOOD, GOOD])
        for indexes, at in (
            (None, 0), ("", 0), (0, 0), ({0}, 0), ({0: 1}, 0), (True, 0), (Weird(), 0), ([2], 0), ([0, 1, 2], 2),
            ([-1], 0), ([0, -2, 5], 1), ([0, True], 1), ([False], 0), ([0, None], 1), ([0, "1"], 1), ([0, 1.0], 1),
            ([1, [0]], 1), ((0, 1, 0, 9), 3), ([0, Weird()], 1),
        ):
            self.assertEqual(raised(book.only_rules, indexes), (InvalidQuestion, at), repr(indexes))
        self.assertEqual(raised(Rulebook(lot("a"), []).only_rules, [0]), (InvalidQuestion, 0))


class CompareTest(unittest.TestCase):
    def test_parting_state(self):
        parted = 0
        for one, other in zip(BOOKS[:60], BOOKS[1:60] + BOOKS[:1]):
            left = helper.allowed(*one)
            right = helper.allowed(*other)
            told = [state for state in helper.all_lots("abcd") if (state in left) != (state in right)]
            parted += bool(told)
            self.assertEqual(parting_state(Rulebook(*one), Rulebook(*other)), told[0] if told else None)
        self.assertGreater(parted, 20)

    def test_no_parting_state(self):
        one = Rulebook(lot("ab"), [GOOD])
        self.assertIsNone(parting_state(one, one))
        self.assertIsNone(parting_state(one=one, other=Rulebook(lot("ab"), [("table", lot("ab"), lots("- b ab"))])))
        self.assertEqual(parting_state(one, Rulebook(lot("ab"), [("imply", (), ())])), ())
        self.assertEqual(parting_state(Rulebook(lot("ab"), []), one), lot("a"))

    def test_other_services(self):
        one = Rulebook(lot("ab"), [])
        for other in (Rulebook(lot("abc"), []), Rulebook(lot("a"), []), Rulebook(lot("ac"), [])):
            self.assertEqual(raised(parting_state, one, other), (InvalidQuestion, 1))

    def test_follows(self):
        answers = set()
        for at, (services, rules) in enumerate(BOOKS[:56]):
            states = helper.allowed(services, rules)
            for _, more in BOOKS[at + 1:at + 4]:
                for rule in more:
                    told = all(helper.rule_allows(rule, state) for state in states)
                    answers.add(told)
                    self.assertIs(follows(Rulebook(services, rules), rule), told)
        self.assertEqual(answers, {True, False})

    def test_follows_at_the_edges(self):
        nothing = Rulebook(lot("ab"), [("imply", (), ())])
        self.assertIs(follows(nothing, ["imply", (), ()]), True)
        self.assertIs(follows(Rulebook(lot("ab"), []), ("imply", (), ())), False)
        self.assertIs(follows(Rulebook(lot("ab"), []), ("imply", ["a"], ["a"])), True)
        self.assertIs(follows(book=Rulebook(lot("ab"), [GOOD]), rule=["imply", ["a"], ["b"]]), True)

    def test_follows_no_rule(self):
        for value in helper.ODD_VALUES + (("imply", ["c"], ()), ("imply", ()), Weird(), ("imply", Weird(), ())):
            self.assertEqual(raised(follows, Rulebook(lot("ab"), []), value), (InvalidRule, 0))

    def test_steady(self):
        for services, rules in BOOKS:
            states = helper.allowed(services, rules)
            runs = tuple(name for name in services if all(name in state for state in states))
            rests = tuple(name for name in services if not any(name in state for state in states))
            self.assertEqual(steady(Rulebook(services, rules)), (runs, rests))

    def test_steady_at_the_edges(self):
        self.assertEqual(steady(Rulebook(lot("ba"), [("imply", (), ())])), (lot("ab"), lot("ab")))
        self.assertEqual(steady(Rulebook(lot("ba"), [])), ((), ()))
        self.assertEqual(steady(Rulebook(lot("abc"), [("table", lot("abc"), lots("a ab"))])), (lot("a"), lot("c")))


class NothingChangesTest(unittest.TestCase):
    def test_arguments_stay(self):
        services = ["b", "a"]
        rules = [["imply", ["b", "a"], []], ["table", ["b", "a"], [["b", "a"], []]]]
        before = repr((services, rules))
        book = Rulebook(services, rules)
        book.with_rules(rules)
        follows(book, rules[0])
        self.assertEqual(repr((services, rules)), before)

    def test_later_changes_have_no_effect(self):
        services = ["b", "a"]
        xs = ["a"]
        rules = [["imply", xs, []]]
        book = Rulebook(services, rules)
        more = book.with_rules(rules)
        xs.append("b")
        rules[0][0] = "cap"
        rules.append(None)
        services.append("c")
        self.assertEqual(book.services, lot("ab"))
        self.assertEqual(book.rules, (("imply", lot("a"), ()),))
        self.assertEqual(book.states(), lots("- b"))
        self.assertEqual(more.rules, (("imply", lot("a"), ()),) * 2)


if __name__ == "__main__":
    unittest.main()
