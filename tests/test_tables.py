"""[0.9], [0.10]: tables."""

import unittest

from goneunseen.errors import InvalidNumber, InvalidOperation, InvalidRow, InvalidTable
from goneunseen.scheme.names import is_name
from goneunseen.scheme.tables import Table
from tests.values import GREAT, TOO_GREAT, Case, wrong_but, wrong_values

WIDE = Table("wide", 4, key=(1, 3), scope="all", refers=(((2,), "b"), ((0, 0), "b"), ((2,), "a"), ((3, 1, 0, 2), "a")))


class Tables(Case):
    def test_properties(self):
        self.assert_same(
            [WIDE.name, WIDE.width, WIDE.key, WIDE.scope], ["wide", 4, (1, 3), "all"])
        self.assert_same(WIDE.refers, (((0, 0), "b"), ((2,), "a"), ((2,), "b"), ((3, 1, 0, 2), "a")))
        plain = Table("a", 1)
        self.assert_same([plain.name, plain.width, plain.key, plain.scope, plain.refers], ["a", 1, None, "living", ()])
        self.assertEqual(Table.MAX_WIDTH, 4)

    def test_a_table_can_name_itself_and_any_target(self):
        self.assertEqual(Table("a", 1, key=(0,), refers=(((0,), "a"), ((0,), "nosuch"))).refers[0][1], "a")

    def test_names(self):
        self.assertEqual(Table("abcdefgh", 1).name, "abcdefgh")
        for value in wrong_values():
            if not is_name(value):
                self.refused(InvalidTable, Table, value, 2)
        self.refused(InvalidTable, Table, "abcdefghi", 2)

    def test_widths(self):
        for width in (1, 2, 3, 4):
            self.assertEqual(Table("a", width).width, width)
        for value in wrong_but(1, 2, 4):
            self.refused(InvalidTable, Table, "a", value)
        for value in (0, 5, True, -1, "2", None):
            self.refused(InvalidTable, Table, "a", value)

    def test_keys(self):
        for key in ((0,), (3,), (0, 1), (1, 3), (0, 1, 2, 3)):
            self.assert_same(Table("a", 4, key=key).key, key)
        for key in ((), (4,), (-1,), (1, 0), (0, 0), (0, 1, 2, 3, 3), [0], (True,), (0, True), ("a",), 0, True, "0", False):
            self.refused(InvalidTable, Table, "a", 4, key=key)
        for value in wrong_but(None, (1,)):
            self.refused(InvalidTable, Table, "a", 2, key=value)
        self.refused(InvalidTable, Table, "a", 1, key=(1,))

    def test_scopes(self):
        self.assertEqual(Table("a", 1, key=(0,), scope="living").scope, "living")
        self.assertEqual(Table("a", 1, key=(0,), scope="all").scope, "all")
        self.refused(InvalidTable, Table, "a", 1, scope="all")
        for value in wrong_but("living", "all"):
            self.refused(InvalidTable, Table, "a", 1, key=(0,), scope=value)
            self.refused(InvalidTable, Table, "a", 1, scope=value)

    def test_references(self):
        four = tuple(((column,), "b") for column in (3, 1, 2, 0))
        self.assert_same(Table("a", 4, refers=four).refers, tuple(sorted(four)))
        self.refused(InvalidTable, Table, "a", 4, refers=four + (((0, 0), "b"),))
        self.assert_same(Table("a", 1, refers=(((0, 0, 0, 0), "b"),)).refers, (((0, 0, 0, 0), "b"),))
        for pair in (
                ((0,), "b", 1), ((0,),), (0, "b"), ([0], "b"), ((), "b"), ((2,), "b"), ((-1,), "b"), ((True,), "b"),
                ((0, False), "b"), ((0, 0, 0, 0, 0), "b"), ((0,), "B"), ((0,), "abcdefghi"), ((0,), None), ((0,), ("b",)),
                [(0,), "b"], None, (("a",), "b"), (None, "b"), "ab"):
            self.refused(InvalidTable, Table, "a", 2, refers=(pair,))
            self.refused(InvalidTable, Table, "a", 2, refers=(((1,), "b"), pair))
        self.refused(InvalidTable, Table, "a", 2, refers=(((0,), "b"), ((0,), "b")))
        for value in wrong_but((), (((0,), "buyer"),)):
            self.refused(InvalidTable, Table, "a", 2, refers=value)

    def test_several_wrong_arguments_at_once(self):
        for value in wrong_but("a", "b", "buyer", "nosuch", "living", "all"):
            self.refused(InvalidTable, Table, value, value, key=value, scope=value, refers=value)

    def test_key_of(self):
        self.assert_same(WIDE.key_of((5, 6, 7, 8)), (6, 8))
        self.assert_same(WIDE.key_of((GREAT, -GREAT, 0, 0)), (-GREAT, 0))
        plain = Table("a", 2)
        for value in wrong_but((1, 10), (0, 0), (1, 0)):
            self.refused(InvalidRow, plain.key_of, value)
            self.refused(InvalidRow, Table("a", 2, key=(0,)).key_of, value)
        self.refused(InvalidOperation, plain.key_of, (1, 2))
        self.refused(InvalidRow, WIDE.key_of, (1, 2, 3))
        self.refused(InvalidRow, WIDE.key_of, (1, 2, 3, 4, 5))
        self.refused(InvalidRow, WIDE.key_of, (1, True, 3, 4))
        self.refused(InvalidRow, WIDE.key_of, (1, TOO_GREAT, 3, 4))

    def test_told(self):
        self.assert_same([WIDE.told((5, 6, 7, 8), index) for index in range(4)], [(5, 5), (7,), (7,), (8, 6, 5, 7)])
        for value in wrong_values():
            if type(value) is not int or not 0 <= value < 4:
                self.refused_with(InvalidNumber, {"number": value}, WIDE.told, (5, 6, 7, 8), value)
                self.refused(InvalidRow, WIDE.told, (5, 6, 7), value)
            self.refused(InvalidRow, WIDE.told, value, 0)
            self.refused(InvalidRow, WIDE.told, value, value)
        for index in (-1, 4, True, False):
            self.refused_with(InvalidNumber, {"number": index}, WIDE.told, (5, 6, 7, 8), index)
        self.refused_with(InvalidNumber, {"number": 0}, Table("a", 1).told, (1,), 0)

    def test_is_key(self):
        for key, width in (((0,), 1), ((0, 1), 2), ((1,), 2), ((0, 1, 2, 3), 4), ((1, 2), 3)):
            self.assertIs(Table.is_key(key, width), True)
            self.assertIs(WIDE.is_key(key, width), True)
        for key, width in (
                ((1,), 1), ((1, 0), 2), ((0, 0), 2), ((), 2), ((True,), 2), ((0, True), 2), ([0], 2), (None, 2), ((-1,), 2),
                (0, 1), ("0", 1), ((3,), 3)):
            self.assertIs(Table.is_key(key, width), False)
        for value in wrong_but((1,)):
            self.assertIs(Table.is_key(value, 2), False)
        for value in wrong_but(1, 2, 4):
            self.refused_with(InvalidNumber, {"number": value}, Table.is_key, (0,), value)
            self.refused_with(InvalidNumber, {"number": value}, Table.is_key, value, value)

    def test_equality(self):
        same = Table("wide", 4, key=(1, 3), scope="all", refers=WIDE.refers)
        self.assertTrue(WIDE == same)
        self.assertFalse(WIDE != same)
        parts = {"key": (1, 3), "scope": "all", "refers": WIDE.refers}
        for other in (
                Table("other", 4, **parts), Table("wide", 4, **{**parts, "key": (1, 2)}),
                Table("wide", 4, **{**parts, "scope": "living"}), Table("wide", 4, **{**parts, "refers": WIDE.refers[1:]})):
            self.assertFalse(WIDE == other)
            self.assertTrue(WIDE != other)
        self.assertTrue(Table("a", 1) != Table("a", 2))
        self.assert_unlike_all(WIDE)

    def test_no_iteration_and_no_change(self):
        self.assert_not_iterable(WIDE)
        for name in ("name", "width", "key", "scope", "refers"):
            with self.assertRaises(AttributeError):
                setattr(WIDE, name, None)


if __name__ == "__main__":
    unittest.main()
