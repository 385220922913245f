"""[0.12]: places, and the rows for which they stand."""

import itertools
import unittest

from goneunseen.ask.places import Place, fits, row_at
from goneunseen.errors import InvalidOperation, InvalidPlace, InvalidRow
from goneunseen.scheme.names import is_integer, is_name, is_term
from tests.values import GREAT, TOO_GREAT, Case, wrong_but, wrong_values

PLACE = Place("order", "o", 5, "b", "o")


class Places(Case):
    def both_refuse(self, source, *terms, **more):
        self.refused(InvalidPlace, Place, source, *terms, **more)
        self.refused(InvalidPlace, Place.of, source, terms, **more)

    def test_properties(self):
        self.assert_same(
            [PLACE.source, PLACE.terms, PLACE.filtered, PLACE.variables], ["order", ("o", 5, "b", "o"), False, ("b", "o")])
        self.assertEqual(len(PLACE), 4)
        self.assert_same(Place("a", 1, -GREAT).variables, ())
        for terms in itertools.permutations(("d", "c", "b", "aa")):
            self.assert_same(Place("a", *terms).variables, ("aa", "b", "c", "d"))
        self.assertIs(Place("a", "x", filtered=True).filtered, True)
        self.assertIs(Place("a", "x", filtered=False).filtered, False)
        self.assertEqual(Place.of("order", ("o", 5, "b", "o")), PLACE)
        self.assertEqual(Place.of("a", ("x",), filtered=True), Place("a", "x", filtered=True))
        self.assertEqual(Place("abcdefgh", "abcdefgh").source, "abcdefgh")

    def test_one_to_four_terms(self):
        for many in (1, 2, 3, 4):
            self.assertEqual(len(Place("a", *["x"] * many)), many)
        self.both_refuse("a")
        self.both_refuse("a", *["x"] * 5)

    def test_wrong_arguments(self):
        for value in wrong_values():
            if not is_name(value):
                self.both_refuse(value, "x")
                self.both_refuse(value, value, filtered=value)
            if not is_term(value):
                self.both_refuse("a", value)
                self.both_refuse("a", "x", value, 1)
            if value is not True and value is not False:
                self.both_refuse("a", "x", filtered=value)
            self.refused(InvalidPlace, Place.of, "a", value) if not good_terms(value) else None
        self.both_refuse("a", True)
        self.both_refuse("a", TOO_GREAT)
        self.both_refuse("a", "abcdefghi")
        self.both_refuse("abcdefghi", "x")
        self.both_refuse("a", "x", filtered=1)
        self.refused(InvalidPlace, Place.of, "a", ["x"])
        self.refused(InvalidPlace, Place.of, "a", "x")

    def test_signs(self):
        free, filtered = Place("a", "x", 1), Place("a", "x", 1, filtered=True)
        self.assertEqual([+free, +filtered, -free, -filtered, ~free, ~filtered], [filtered, filtered, free, free, filtered, free])
        self.assertEqual(~~free, free)
        self.assertIs(free.filtered, False)
        self.assertIs(filtered.filtered, True)

    def test_equality(self):
        self.assertTrue(PLACE == Place("order", "o", 5, "b", "o"))
        self.assertFalse(PLACE != Place("order", "o", 5, "b", "o"))
        for other in (
                +PLACE, Place("orders", "o", 5, "b", "o"), Place("order", "o", 5, "b"), Place("order", "o", 6, "b", "o"),
                Place("order", "o", 5, "o", "b")):
            self.assertFalse(PLACE == other)
            self.assertTrue(PLACE != other)
        self.assert_unlike_all(PLACE)

    def test_text(self):
        self.assertEqual(str(PLACE), "order(o, 5, b, o)")
        self.assertEqual(str(+PLACE), "+order(o, 5, b, o)")
        self.assertEqual(str(Place("a", -7)), "a(-7)")
        self.assertEqual(str(Place("a", GREAT, filtered=True)), "+a(" + "9" * 20 + ")")

    def test_no_iteration_and_no_change(self):
        self.assert_not_iterable(PLACE)
        for name in ("source", "terms", "filtered", "variables"):
            with self.assertRaises(AttributeError):
                setattr(PLACE, name, None)


def good_terms(value):
    return isinstance(value, tuple) and 1 <= len(value) <= 4 and all(is_term(term) for term in value)


def good_numbers(value):
    return isinstance(value, dict) and all(is_name(name) and is_integer(value[name]) for name in value)


class Rows(Case):
    def test_row_at(self):
        self.assert_same(row_at(PLACE, {"o": 1, "b": -GREAT}), (1, 5, -GREAT, 1))
        self.assert_same(row_at(PLACE, {"z": 7, "o": 0, "b": 0, "a": 1}), (0, 5, 0, 0))
        self.assert_same(row_at(Place("a", 3), {}), (3,))
        self.assert_same(row_at(+Place("a", "x"), {"x": 2}), (2,))
        for numbers in ({}, {"o": 1}, {"b": 1}, {"x": 1, "y": 2}):
            self.refused(InvalidOperation, row_at, PLACE, numbers)

    def test_fits(self):
        self.assert_same(fits(PLACE, (1, 5, 2, 1), {}), {"b": 2, "o": 1})
        self.assertIs(fits(PLACE, (1, 5, 2, 3), {}), None)
        self.assertIs(fits(PLACE, (1, 6, 2, 1), {}), None)
        self.assertEqual(fits(PLACE, (1, 5, 2, 1), {"o": 1, "b": 2}), {"b": 2, "o": 1})
        self.assertIs(fits(PLACE, (1, 5, 2, 1), {"b": 1}), None)
        self.assertIs(fits(PLACE, (1, 5, 2, 1), {"o": 2}), None)
        self.assertEqual(fits(Place("a", 3), (3,), {"x": 1}), {"x": 1})
        self.assertEqual(fits(+Place("a", "x"), (GREAT,), {}), {"x": GREAT})

    def test_fits_returns_a_new_dict_with_ascending_keys(self):
        numbers = {"z": 1, "c": 2}
        found = fits(PLACE, (3, 5, 4, 3), numbers)
        self.assertEqual(list(found.items()), [("b", 4), ("c", 2), ("o", 3), ("z", 1)])
        self.assertEqual(list(numbers.items()), [("z", 1), ("c", 2)])
        again = fits(PLACE, (3, 5, 4, 3), found)
        again["y"] = 1
        self.assertNotIn("y", found)
        self.assertEqual(numbers, {"z": 1, "c": 2})

    def test_fits_and_row_at_agree(self):
        for terms in itertools.product(("x", "y", 0, 1), repeat=2):
            place = Place("a", *terms)
            for row in itertools.product((0, 1), repeat=2):
                for numbers in ({}, {"x": 0}, {"y": 1}, {"x": 1, "y": 0}):
                    right = [
                        {**numbers, **dict(zip(place.variables, parts))}
                        for parts in itertools.product((0, 1), repeat=len(place.variables))
                        if row_at(place, {**numbers, **dict(zip(place.variables, parts))}) == row
                        and all(numbers.get(name, part) == part for name, part in zip(place.variables, parts))]
                    self.assertEqual(fits(place, row, numbers), right[0] if right else None)

    def test_wrong_arguments(self):
        row = (1, 5, 2, 1)
        for value in wrong_values():
            if not isinstance(value, Place):
                self.refused(InvalidPlace, row_at, value, {})
                self.refused(InvalidPlace, row_at, value, value)
                self.refused(InvalidPlace, fits, value, row, {})
                self.refused(InvalidPlace, fits, value, value, value)
            self.refused(InvalidRow, fits, PLACE, value, {})
            self.refused(InvalidRow, fits, PLACE, value, value)
            if not good_numbers(value):
                self.refused(InvalidOperation, row_at, Place("a", 1), value)
                self.refused(InvalidOperation, fits, PLACE, row, value)
                self.refused(InvalidOperation, fits, PLACE, (9, 9, 9, 8), value)
        for wrong in ((1, 5, 2), (1, 5, 2, 1, 1), (1, 5, 2, True), (1, 5, 2, TOO_GREAT), [1, 5, 2, 1]):
            self.refused(InvalidRow, fits, PLACE, wrong, {})
        for numbers in (
                {"o": True, "b": 1}, {"o": 1, "b": TOO_GREAT}, {"o": 1, "b": 1, "A": 1}, {"o": 1, "b": 1, 3: 1}, {"o": "b", "b": 1},
                {"o": 1, "b": 1, "abcdefghi": 1}, [("o", 1), ("b", 1)], {"o": 1, "b": None}):
            self.refused(InvalidOperation, row_at, PLACE, numbers)
            self.refused(InvalidOperation, fits, PLACE, row, numbers)


if __name__ == "__main__":
    unittest.main()
