"""[34]: rulebooks in which one plan alone, through all their states, leads from the first to the last one."""

import unittest

from stopsfirst.court import is_bendable
from stopsfirst.longways import long_book, long_row
from stopsfirst.reach import distances, shortest_plan
from tests import helper
from tests.helper import lots

LETTERS = "abcdefghij"


def row_by_words(number):
    if number == 0:
        return [()]
    before = row_by_words(number - 1)
    p, q = LETTERS[2 * number - 2], LETTERS[2 * number - 1]
    ahead = [letter for letter in LETTERS if letter < p]
    z = {letter for at, letter in enumerate(ahead) if at % 2 == 1}
    return before + [tuple(sorted(z | {p}))] + [tuple(sorted({*state, p, q})) for state in before]


class LongRowTest(unittest.TestCase):
    def test_the_row_that_is_told(self):
        self.assertEqual(long_row(2), lots("- a ab bc cd acd abcd"))
        self.assertEqual(long_row(number=1), lots("- a ab"))

    def test_by_words(self):
        for number in range(1, 6):
            self.assertEqual(long_row(number), tuple(row_by_words(number)))
            self.assertEqual(len(long_row(number)), 2 ** (number + 1) - 1)
            self.assertEqual(len(set(long_row(number))), len(long_row(number)))

    def test_third_row(self):
        self.assertEqual(long_row(3)[7:9], lots("bde ef"))
        self.assertEqual(long_row(3)[-1], tuple("abcdef"))


class LongBookTest(unittest.TestCase):
    def test_one_table(self):
        for number in range(1, 6):
            book = long_book(number)
            self.assertEqual(book.services, tuple(LETTERS[:2 * number]))
            self.assertEqual(book.rules, (("table", book.services, tuple(sorted(long_row(number)))),))
            self.assertEqual(book.states(), tuple(sorted(row_by_words(number))))
        self.assertEqual(long_book(number=2), long_book(2))

    def test_only_one_way(self):
        """A plan that leaves out a state would go on without it; so without it the last state is not reached."""
        for number in range(1, 4):
            row = row_by_words(number)
            ones = [(name,) for name in LETTERS[:2 * number]]
            for left_out in row[1:-1]:
                others = [state for state in row if state != left_out]
                self.assertNotIn(row[-1], helper.reached(others, row[0], ones))

    def test_how_many_changes(self):
        for number in range(1, 6):
            row = row_by_words(number)
            ones = [(name,) for name in LETTERS[:2 * number]]
            if number < 5:
                self.assertEqual(helper.reached(row, row[0], ones)[row[-1]], 2 ** (number + 1) - 2)
                self.assertEqual(helper.reached(row, row[0], ones, stops=True)[row[-1]], 2 ** number - 2)
            book = long_book(number)
            self.assertEqual(dict(distances(book, row[0], ones))[row[-1]], 2 ** (number + 1) - 2)
            self.assertEqual(dict(distances(book, row[0], ones, stops=True))[row[-1]], 2 ** number - 2)
            self.assertEqual(shortest_plan(book, row[0], row[-1], ones), tuple(row))

    def test_not_bendable_from_two_on(self):
        self.assertEqual([is_bendable(long_book(number)) for number in (1, 2, 3)], [True, False, False])


if __name__ == "__main__":
    unittest.main()
