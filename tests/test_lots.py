"""[1] and [5]: names and lots."""

import random
import unittest

from stopsfirst.lots import (
    common, greatest_lots, is_lot, is_name, is_part, least_lots, less, lots_between, parts_of, united,
)
from tests import helper
from tests.helper import lot, lots

SAMPLE = helper.all_lots(("a", "b", "ab", "zzzzz"))


class NameTest(unittest.TestCase):
    def test_names(self):
        for name in ("a", "z", "az", "abc", "zzzz", "abcde"):
            self.assertIs(is_name(name), True, name)

    def test_strings_that_are_no_names(self):
        for text in ("", "abcdef", "A", "aB", "a1", "a b", " a", "a ", "a\n", "\n", "a-b", "_", "`", "{", "\u00e9",
                     "a\u00df", "\u00aa", "\uff41", "a\u0301"):
            self.assertIs(is_name(text), False, repr(text))

    def test_other_kinds_are_no_names(self):
        for value in helper.ODD_VALUES + (("a",), ()):
            if not (isinstance(value, str) and value in ("a", "ab")):
                self.assertIs(is_name(value), False, repr(value))
        self.assertIs(is_name(helper.Weird()), False)


class LotTest(unittest.TestCase):
    def test_lots(self):
        for value in ((), ("a",), ("a", "b"), ("a", "aa", "ab", "b"), ("abcde", "z"), tuple("abcdefghijklmnopqrst")):
            self.assertIs(is_lot(value), True, value)

    def test_order_and_doubles(self):
        for value in (("b", "a"), ("a", "a"), ("aa", "a"), ("a", "b", "b"), ("a", "c", "b"), ("ab", "aa")):
            self.assertIs(is_lot(value), False, value)

    def test_lists_and_sets_are_no_lots(self):
        for value in ([], ["a"], ["a", "b"], {"a"}, {"a": 1}, "", "a", "ab", frozenset()):
            self.assertIs(is_lot(value), False, repr(value))

    def test_other_kinds_are_no_lots(self):
        for value in helper.ODD_VALUES:
            if value not in (("z",),):
                self.assertIs(is_lot(value), False, repr(value))
        for value in (helper.Weird(), (helper.Weird(),), ("a", helper.Weird()), (helper.Weird(), "a")):
            self.assertIs(is_lot(value), False)


class TwoLotsTest(unittest.TestCase):
    def test_all_pairs(self):
        for one in SAMPLE:
            for other in SAMPLE:
                self.assertEqual(common(one, other), helper.meet(one, other))
                self.assertEqual(united(one, other), helper.join(one, other))
                self.assertEqual(less(one, other), helper.minus(one, other))
                self.assertIs(is_part(one, other), helper.part(one, other))

    def test_what_is_returned_is_a_lot(self):
        for one in SAMPLE:
            for other in SAMPLE:
                for told in (common(one, other), united(one, other), less(one, other)):
                    self.assertIs(is_lot(told), True)

    def test_arguments_by_name(self):
        self.assertEqual(common(one=lot("ab"), other=lot("bc")), lot("b"))
        self.assertEqual(united(other=lot("ab"), one=lot("bc")), lot("abc"))
        self.assertEqual(less(other=lot("ab"), one=lot("bc")), lot("c"))
        self.assertIs(is_part(other=lot("ab"), one=lot("b")), True)
        self.assertEqual(parts_of(lot=lot("a")), lots("- a"))
        self.assertEqual(lots_between(high=lot("ab"), low=lot("a")), lots("a ab"))
        self.assertEqual(least_lots(lots=lots("a ab")), lots("a"))
        self.assertEqual(greatest_lots(lots=lots("a ab")), lots("ab"))


class ManyLotsTest(unittest.TestCase):
    def test_parts(self):
        self.assertEqual(parts_of(()), ((),))
        self.assertEqual(parts_of(lot("ab")), lots("- a ab b"))
        self.assertEqual(parts_of(("ab", "b", "c")), tuple(helper.all_lots(("ab", "b", "c"))))
        self.assertEqual(parts_of(lot("abcdefghij")), tuple(helper.all_lots("abcdefghij")))

    def test_between(self):
        for low in SAMPLE:
            for high in SAMPLE:
                told = tuple(x for x in SAMPLE if helper.part(low, x) and helper.part(x, high))
                self.assertEqual(lots_between(low, high), told)
        self.assertEqual(lots_between(lot("c"), lot("ab")), ())
        self.assertEqual(lots_between(lot("b"), lot("abc")), lots("ab abc b bc"))

    def test_least_and_greatest(self):
        chance = random.Random(5)
        for _ in range(300):
            some = [chance.choice(SAMPLE) for _ in range(chance.randrange(8))]
            self.assertEqual(least_lots(some), helper.least(some))
            self.assertEqual(greatest_lots(tuple(some)), helper.greatest(some))

    def test_least_and_greatest_of_few(self):
        self.assertEqual(least_lots([]), ())
        self.assertEqual(greatest_lots(()), ())
        self.assertEqual(least_lots([()]), ((),))
        self.assertEqual(greatest_lots([()]), ((),))
        self.assertEqual(least_lots(lots("b a b ab a")), lots("a b"))
        self.assertEqual(greatest_lots(lots("b a b a")), lots("a b"))
        self.assertEqual(least_lots(lots("ab - c")), lots("-"))
        self.assertEqual(greatest_lots(lots("c ab - a")), lots("ab c"))

    def test_arguments_stay(self):
        some = [lot("b"), lot("a"), lot("ab"), lot("a")]
        least_lots(some)
        greatest_lots(some)
        self.assertEqual(some, [lot("b"), lot("a"), lot("ab"), lot("a")])


if __name__ == "__main__":
    unittest.main()
