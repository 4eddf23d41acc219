"""[13] and [14]: rulebooks as texts."""

import unittest

from stopsfirst.errors import InvalidText
from stopsfirst.rulebooks import Rulebook
from stopsfirst.texts import read_book, text_of
from tests import helper
from tests.helper import Weird, lot, raised

# Pairs: a kept rule about a, b, c, d, and its line.
LINES = (
    (("imply", (), ("a",)), "always a"),
    (("imply", (), lot("ab")), "some a b"),
    (("imply", (), lot("abcd")), "some a b c d"),
    (("imply", ("b",), ()), "never b"),
    (("imply", lot("bc"), ()), "clash b c"),
    (("imply", lot("abcd"), ()), "clash a b c d"),
    (("imply", ("a",), ("b",)), "need a b"),
    (("imply", ("b",), ("a",)), "need b a"),
    (("imply", ("a",), ("a",)), "need a a"),
    (("imply", ("c",), lot("ab")), "either c a b"),
    (("imply", ("a",), lot("abcd")), "either a a b c d"),
    (("imply", (), ()), "imply :"),
    (("imply", lot("ab"), ("c",)), "imply a b : c"),
    (("imply", lot("ab"), lot("cd")), "imply a b : c d"),
    (("imply", lot("abcd"), lot("abcd")), "imply a b c d : a b c d"),
    (("cap", (), 0), "cap 0"),
    (("cap", (("a", 2), ("b", 0)), 3), "cap 3 a 2 b 0"),
    (("cap", (("d", 1000000),), 1000000), "cap 1000000 d 1000000"),
    (("cut", (), 10), "cut 10"),
    (("cut", (("a", "b", 2), ("a", "d", 1)), 1), "cut 1 a b 2 a d 1"),
    (("cut", (("c", "d", 1000000),), 1000000), "cut 1000000 c d 1000000"),
    (("feed", (), (), 0), "feed 0 :"),
    (("feed", (("a", 1), ("b", 2)), (), -3), "feed -3 a 1 b 2 :"),
    (("feed", (), (("c", 0), ("d", 20)), 7), "feed 7 : c 0 d 20"),
    (("feed", (("b", 1),), (("a", 1),), -1000000), "feed -1000000 b 1 : a 1"),
    (("feed", (("b", 1000000),), (("a", 1000000),), 1000000), "feed 1000000 b 1000000 : a 1000000"),
    (("table", (), ()), "table"),
    (("table", (), ((),)), "table :"),
    (("table", ("a",), ()), "table a"),
    (("table", ("a",), ((),)), "table a :"),
    (("table", ("a",), (("a",),)), "table a : a"),
    (("table", ("a",), ((), ("a",))), "table a : , a"),
    (("table", lot("abc"), ((), lot("a"), lot("abc"), lot("bc"))), "table a b c : , a , a b c , b c"),
    (("table", lot("ab"), (lot("ab"), ("b",))), "table a b : a b , b"),
)

# Pairs: a line in another order or form, and the line that stands for the same rule.
OTHER_LINES = (
    ("some a", "always a"), ("clash a", "never a"), ("either a b", "need a b"), ("imply : b", "always b"),
    ("either a a", "need a a"), ("imply a :", "never a"), ("imply : b a", "some a b"), ("imply b a :", "clash a b"),
    ("imply b : a", "need b a"), ("imply b : d c", "either b c d"), ("imply b a : d c", "imply a b : c d"),
    ("some d b a", "some a b d"), ("clash c a", "clash a c"), ("either d c a", "either d a c"),
    ("cap 3 b 2 a 2", "cap 3 a 2 b 2"), ("cut 5 d c 2 b a 1", "cut 5 a b 1 c d 2"),
    ("feed -2 d 1 b 3 : c 4 a 5", "feed -2 b 3 d 1 : a 5 c 4"), ("table b a : , b a", "table a b : , a b"),
    ("table b a : b a ,", "table a b : , a b"), ("table c b : c , b c , b", "table b c : b , b c , c"),
    ("table a : a ,", "table a : , a"),
)

WRONG_LINES = (
    "", " ", ":", ",", "services a", "services a b c d", "a", "need", "Need a b", "needs a b", "text", "imply",
    "always", "always a b", "always e", "always :", "always 1", "always A", "always a ", " always a", "always  a",
    "never", "never a b", "never e", "some", "some a a", "some e", "some a  b", "some : a", "some a , b",
    "clash", "clash a b a", "clash a e", "clash a :", "need a", "need a b c", "need a e", "need e a", "need a : b",
    "either", "either a", "either a b b", "either a b e", "either e a b", "either a : b c",
    "imply a", "imply a b", "imply a : b : c", "imply : :", "imply a a : b", "imply a : b b", "imply a : e", "imply e :",
    "imply a  : b", "imply a :  b", "imply a : ", "imply a, : b", "imply a:b", "imply a ; b", "imply a : b ,",
    "cap", "cap a", "cap a 1", "cap 1 a", "cap 1 a 1 b", "cap 1 1 a", "cap 1 a 1 a 2", "cap 1 e 1", "cap 01", "cap 00",
    "cap -1", "cap -0", "cap +1", "cap 1.0", "cap 1000001", "cap 10000000", "cap 1 a -1", "cap 1 a 01", "cap 1 a -0",
    "cap 1 a 1000001", "cap 1 : a 1", "cap 1 a b", "cap  1", "cap 1 ", "cap 1_0", "cap \uff11", "cap \u0661",
    "cap \u00b2", "cap 0x1", "cap 1e3", "cap 1 a \u0661", "cap " + "9" * 5000, "cap " + "0" * 5000, "cap 1 a :",
    "cap 1 a " + "1" * 900, "cap none", "cap --1",
    "cut", "cut a b 1", "cut 1 a", "cut 1 a b", "cut 1 a b 0", "cut 1 a b -1", "cut 1 a a 1", "cut 1 a b 1 b a 2",
    "cut 1 a b 1 c", "cut 1 a b 1 c d", "cut 1 a e 1", "cut 1 a b 1000001", "cut 1000001", "cut -1", "cut 1 a 1 b",
    "cut 1 a b 01", "cut 1 : a b 1",
    "feed", "feed 1", "feed :", "feed a 1 :", "feed 1 a 1", "feed 1 : :", "feed 1 a 1 : b 1 : c 1", "feed -0 :",
    "feed 01 :", "feed -01 :", "feed +1 :", "feed --1 :", "feed - :", "feed 1000001 :", "feed -1000001 :",
    "feed 1 a :", "feed 1 : a", "feed 1 a 1 : a 1", "feed 1 a 1 a 1 :", "feed 1 : a 1 a 1", "feed 1 a -1 :",
    "feed 1 : a -1", "feed 1 e 1 :", "feed 1 : e 1", "feed 1 a 1000001 :", "feed 1 : a 1000001", "feed 1 : ",
    "feed : 1", "feed 1 a 01 :", "feed -" + "9" * 5000 + " :",
    "table e", "table a a", "table a : b", "table a : a a", "table a : a , a", "table a : , ,", "table a : ,",
    "table : ,", "table : a", "table a b : a b , b a", "table a , b", "table a ,", "table ,", "table a : a : b",
    "table a : :", "table a :,", "table a : ", "table a :  , a", "table  a", "table a : , a ", "table a 1", "table a b :a",
)

HEAD = "services a b c d"


def kept(line):
    return read_book(HEAD + "\n" + line).rules


class TextTest(unittest.TestCase):
    def test_the_example(self):
        told = text_of(read_book("services b a\nimply b : a\ncap 3 b 2 a 2\ntable b a : , b a"))
        self.assertEqual(told, "services a b\nneed b a\ncap 3 a 2 b 2\ntable a b : , a b")

    def test_each_line(self):
        for rule, line in LINES:
            self.assertEqual(text_of(Rulebook(lot("abcd"), [rule])), HEAD + "\n" + line)
            self.assertEqual(kept(line), (rule,), line)

    def test_all_lines_together(self):
        rules = [rule for rule, _ in LINES]
        text = "\n".join([HEAD] + [line for _, line in LINES])
        self.assertEqual(text_of(Rulebook(lot("dcba"), rules)), text)
        self.assertEqual(read_book(text), Rulebook(lot("abcd"), rules))

    def test_other_lines(self):
        for line, same in OTHER_LINES:
            self.assertEqual(kept(line), kept(same), line)
            self.assertEqual(text_of(read_book(HEAD + "\n" + line)), HEAD + "\n" + same)

    def test_services(self):
        self.assertEqual(text_of(Rulebook(["b", "ab", "a"], [])), "services a ab b")
        self.assertEqual(read_book("services b ab a"), Rulebook(["a", "ab", "b"], []))
        self.assertEqual(read_book(text="services a"), Rulebook(["a"], []))
        self.assertEqual(text_of(book=Rulebook(["need"], [("imply", ["need"], [])])), "services need\nnever need")
        self.assertEqual(read_book("services need\nnever need").rules, (("imply", ("need",), ()),))

    def test_there_and_back(self):
        for services, rules in helper.random_books(41, 80):
            book = Rulebook(services, rules)
            self.assertEqual(read_book(text_of(book)), book)

    def test_sixty_rules(self):
        lines = ["services " + " ".join("abcdefghij")] + ["need a b", "cap 5 a 3 b 3", "table a b : , b"] * 20
        book = read_book("\n".join(lines))
        self.assertEqual(len(book.rules), 60)
        self.assertEqual(text_of(book), "\n".join(lines))


class WrongTextTest(unittest.TestCase):
    def test_wrong_lines(self):
        for line in WRONG_LINES:
            for before in (0, 1, 3):
                text = "\n".join([HEAD] + ["need a b"] * before + [line, "never e"])
                self.assertEqual(raised(read_book, text), (InvalidText, before + 1), repr(line[:40]))

    def test_wrong_first_lines(self):
        for line in ("", " ", "services", "services ", "Services a", "services a a", "services A", "services a  b",
                     " services a", "services a ", "services a,b", "services abcdef", "services a 1", "service a",
                     "need a b", "services a :", "services " + " ".join("abcdefghijk"), "services\ta", "services a\r"):
            self.assertEqual(raised(read_book, line), (InvalidText, 0), repr(line))
            self.assertEqual(raised(read_book, line + "\nnever z"), (InvalidText, 0), repr(line))

    def test_lines_end_with_a_newline_alone(self):
        self.assertEqual(raised(read_book, HEAD + "\n"), (InvalidText, 1))
        self.assertEqual(raised(read_book, HEAD + "\nneed a b\n"), (InvalidText, 2))
        self.assertEqual(raised(read_book, HEAD + "\n\nneed a b"), (InvalidText, 1))
        self.assertEqual(raised(read_book, "\n" + HEAD), (InvalidText, 0))
        for end in ("\r\n", "\r", "\x0b", "\x0c", "\u2028", "\x85", "\t"):
            self.assertEqual(raised(read_book, HEAD + "\nneed a b" + end + "need a b"), (InvalidText, 1))

    def test_the_first_wrong_line(self):
        self.assertEqual(raised(read_book, HEAD + "\nneed a b\nneed a e\n\nnone"), (InvalidText, 2))

    def test_no_string(self):
        for value in helper.ODD_VALUES + (Weird(), ("services a",), ["services a"], b"services a"):
            if not isinstance(value, str):
                self.assertEqual(raised(read_book, value), (InvalidText, 0), repr(value))


if __name__ == "__main__":
    unittest.main()
