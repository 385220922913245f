"""Stage 8: sets of spots."""

import itertools
import unittest

from goneunseen.ask.spots import Spots
from goneunseen.errors import InvalidOperation, InvalidSpot
from tests.values import Case, wrong_but, wrong_values

FIRST, SECOND, THIRD = ("a", 0, 1), ("a", 1, 0), ("b", 0, 0)
MANY = 10 ** 50


def is_spot(value):
    if not isinstance(value, tuple) or len(value) != 3 or not isinstance(value[0], str) or not 1 <= len(value[0]) <= 8:
        return False
    return all("a" <= letter <= "z" for letter in value[0]) and all(type(index) is int and index >= 0 for index in value[1:])


class SetsOfSpots(Case):
    def both_refuse(self, *spots):
        self.refused(InvalidSpot, Spots, *spots)
        self.refused(InvalidSpot, Spots.of, spots)

    def test_order_and_length(self):
        for spots in itertools.permutations((THIRD, FIRST, SECOND, FIRST)):
            found = Spots(*spots)
            self.assert_same(found.listed, (FIRST, SECOND, THIRD))
            self.assertEqual(list(found), [FIRST, SECOND, THIRD])
            self.assertEqual(len(found), 3)
        self.assert_same(Spots(("b", 10, 0), ("b", 9, 0), ("ab", 10, 2), ("ab", 10, 10)).listed, (
            ("ab", 10, 2), ("ab", 10, 10), ("b", 9, 0), ("b", 10, 0)))
        self.assert_same(Spots().listed, ())
        self.assertEqual(len(Spots()), 0)

    def test_truth(self):
        self.assertIs(bool(Spots()), False)
        self.assertIs(bool(Spots(FIRST)), True)

    def test_of(self):
        self.assertEqual(Spots.of((SECOND, FIRST)), Spots(FIRST, SECOND))
        self.assertEqual(Spots.of(()), Spots())
        for value in wrong_values():
            if not (isinstance(value, tuple) and all(is_spot(spot) for spot in value)):
                self.refused(InvalidSpot, Spots.of, value)
        self.refused(InvalidSpot, Spots.of, FIRST)
        self.refused(InvalidSpot, Spots.of, [FIRST])
        self.refused(InvalidSpot, Spots.of, Spots(FIRST))

    def test_wrong_spots(self):
        for value in wrong_values():
            if not is_spot(value):
                self.both_refuse(value)
                self.both_refuse(FIRST, value)
            if not (type(value) is int and value >= 0):
                self.both_refuse(("a", value, 0))
                self.both_refuse(("a", 0, value))
            if not is_spot((value, 0, 0)):
                self.both_refuse((value, 0, 0))
        for spot in (("a", True, 0), ("a", 0, False), ("a", -1, 0), ("a", 0, -1), ("a", 0), ("a", 0, 0, 0), ["a", 0, 0], ("A", 0, 0)):
            self.both_refuse(spot)

    def test_indices_of_any_size(self):
        found = Spots(("a", MANY, 0), ("a", 0, MANY), ("abcdefgh", MANY, MANY))
        self.assert_same(found.listed, (("a", 0, MANY), ("a", MANY, 0), ("abcdefgh", MANY, MANY)))
        self.assertIn(("a", MANY, 0), found)
        self.assertNotIn(("a", MANY + 1, 0), found)
        self.assertEqual(str(Spots(("a", MANY, 0))), "{a " + "1" + "0" * 50 + " 0}")

    def test_in(self):
        found = Spots(FIRST, THIRD)
        self.assertIs(FIRST in found, True)
        self.assertIs(SECOND in found, False)
        self.assertIs(("a", False, True) in found, False)
        self.assertIs(("a", 0, True) in found, False)
        for value in wrong_values():
            self.assertIs(value in found, False)
            self.assertIs(value in Spots(), False)

    def test_equality(self):
        self.assertTrue(Spots(FIRST, SECOND) == Spots(SECOND, FIRST, FIRST))
        self.assertFalse(Spots(FIRST, SECOND) != Spots(SECOND, FIRST))
        for other in (Spots(), Spots(FIRST), Spots(FIRST, SECOND, THIRD), Spots(FIRST, THIRD)):
            self.assertFalse(Spots(FIRST, SECOND) == other)
            self.assertTrue(Spots(FIRST, SECOND) != other)
        self.assert_unlike_all(Spots(FIRST, SECOND))
        self.assertFalse(Spots(FIRST) == (FIRST,))

    def test_operations(self):
        every = (FIRST, SECOND, THIRD)
        sets = [some for many in range(4) for some in itertools.combinations(every, many)]
        for one in sets:
            for other in sets:
                first, second = Spots(*one), Spots(*other)
                self.assertEqual((first | second).listed, tuple(sorted({*one, *other})))
                self.assertEqual((first & second).listed, tuple(sorted({*one} & {*other})))
                self.assertEqual((first - second).listed, tuple(sorted({*one} - {*other})))
                self.assertIs(first.within(second), {*one} <= {*other})
                self.assertEqual([first.listed, second.listed], [one, other])

    def test_other_values_are_refused(self):
        found = Spots(FIRST)
        for value in wrong_values():
            if not isinstance(value, Spots):
                self.refused(InvalidOperation, lambda: found | value)
                self.refused(InvalidOperation, lambda: found & value)
                self.refused(InvalidOperation, lambda: found - value)
                self.refused(InvalidOperation, found.within, value)
                self.refused(InvalidOperation, Spots().within, value)
        self.refused(InvalidOperation, lambda: found | (FIRST,))

    def test_a_variable_gets_a_new_value(self):
        found = kept = Spots(FIRST)
        found |= Spots(SECOND)
        self.assertEqual(found, Spots(FIRST, SECOND))
        self.assertEqual(kept, Spots(FIRST))
        for value in wrong_but():
            if not isinstance(value, Spots):
                with self.assertRaises(InvalidOperation):
                    found |= value
        self.assertEqual(found, Spots(FIRST, SECOND))

    def test_text(self):
        self.assertEqual(str(Spots(("parts", 0, 0), ("bought", 0, 1))), "{bought 0 1, parts 0 0}")
        self.assertEqual(str(Spots(("a", 2, 10))), "{a 2 10}")
        self.assertEqual(str(Spots()), "{}")

    def test_no_change(self):
        with self.assertRaises(AttributeError):
            Spots(FIRST).listed = ()


if __name__ == "__main__":
    unittest.main()
