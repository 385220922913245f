"""[0.1], [0.8]: names, integers, terms and rows."""

import string
import unittest

from goneunseen.scheme.names import is_integer, is_name, is_row, is_term
from tests.values import GREAT, TOO_GREAT, Case, wrong_values


class Names(Case):
    def holds(self, judge, *values):
        for value in values:
            self.assertIs(judge(value), True, value)

    def fails(self, judge, *values):
        for value in values:
            self.assertIs(judge(value), False, value)

    def test_names_are_one_to_eight_lowercase_letters(self):
        self.holds(is_name, *string.ascii_lowercase, "abcdefgh", "stuvwxyz", "self", "aa")
        self.fails(is_name, "", "abcdefghi", "A", "aB", "a1", "a_b", "a b", " a", "a\n", "1", "-", "`", "{", "\u00e9", "a\u00df")
        self.fails(is_name, None, True, 1, ("a",), ["a"], {"a": 1}, ())

    def test_integers_have_at_most_twenty_digits_and_are_no_booleans(self):
        self.holds(is_integer, 0, 1, -1, GREAT, -GREAT)
        self.fails(is_integer, True, False, TOO_GREAT, -TOO_GREAT, 10 ** 39, None, "1", (1,), [1], {})

    def test_terms_are_integers_or_names(self):
        self.holds(is_term, 0, -5, GREAT, "a", "abcdefgh")
        self.fails(is_term, True, False, TOO_GREAT, "", "A", "abcdefghi", None, ("a",), [], {}, "1")

    def test_rows_are_tuples_of_one_to_four_integers(self):
        self.holds(is_row, (0,), (1, 1), (1, 2, 3), (1, 2, 3, 4), (GREAT, -GREAT))
        self.fails(is_row, (), (1, 2, 3, 4, 5), (True,), (1, False), (TOO_GREAT,), (1, -TOO_GREAT), [1], 1, None)
        self.fails(is_row, ("a",), ((1,),), (1, None), "1", {1: 1}, (1, 2, 3, True))

    def test_every_value_is_judged_without_an_error(self):
        for value in wrong_values():
            for judge in (is_name, is_integer, is_term, is_row):
                self.assertIsInstance(judge(value), bool)


if __name__ == "__main__":
    unittest.main()
