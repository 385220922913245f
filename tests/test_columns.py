"""Stage 18: columns."""

import random
import unittest

from goneunseen.base.bases import Base
from goneunseen.errors import InvalidBase, InvalidOperation, UnknownName
from goneunseen.scheme.schemes import Scheme
from goneunseen.scheme.tables import Table
from goneunseen.text.columns import base_columns, in_columns
from goneunseen.text.formats import format_base
from tests.oracle import some_schemes
from tests.values import DAY, GREAT, SHOP, Case, wrong_values
from tests.views import random_base


class Columns(Case):
    def test_sides(self):
        rows = (("a", "b", "c"), ("abcd", "abc", "ab"), ("", "", ""))
        for sides, expected in (
                ("", ["a   .b  .c ", "abcd.abc.ab", "    .   .  "]), ("<<<", ["a   .b  .c ", "abcd.abc.ab", "    .   .  "]), (">>>", ["   a.  b. c", "abcd.abc.ab", "    .   .  "]),
                ("^^^", [" a  . b .c ", "abcd.abc.ab", "    .   .  "]), ("<^>", ["a   . b . c", "abcd.abc.ab", "    .   .  "])):
            self.assert_same(in_columns(rows, sides=sides, between="."), "\n".join(expected))
        self.assertEqual(in_columns((("x",), ("abcde",), ("ab",)), sides="^", fill="-"), "--x--\nabcde\n-ab--")
        self.assertEqual(in_columns((("ab", "c"), ("d", "e"))), "ab c\nd  e")

    def test_filling_and_between(self):
        rows = (("a", "bc"), ("def", "g"))
        self.assertEqual(in_columns(rows, fill="~", between=""), "a~~bc\ndefg~")
        self.assertEqual(in_columns(rows, fill=" ", between="0123456789"), "a  0123456789bc\ndef0123456789g ")
        self.assertEqual(in_columns((("a",),), between="xyz"), "a")
        self.assertEqual(in_columns((("", ""),), between="|"), "|")
        for value in [*wrong_values(), "ab", "\n", "01234567890"]:
            if not (isinstance(value, str) and len(value) == 1 and value.isprintable()):
                self.refused(InvalidOperation, in_columns, rows, fill=value)
                self.refused(InvalidOperation, in_columns, (), fill=value)
            if not (isinstance(value, str) and len(value) <= 10 and value.isprintable()):
                self.refused(InvalidOperation, in_columns, rows, between=value)
                self.refused(InvalidOperation, in_columns, (), between=value)

    def test_without_rows(self):
        for sides in ("", "<", "<>^<>^<>"):
            self.assert_same(in_columns((), sides=sides), "")
        for sides in ("<>^<>^<><", "x", "< >", "<x"):
            self.refused(InvalidOperation, in_columns, (), sides=sides)

    def test_eight_and_nine_columns(self):
        eight = ("a",) * 8
        self.assertEqual(in_columns((eight, eight)), "\n".join([" ".join(eight)] * 2))
        self.assertEqual(in_columns((eight,), sides="<>^<>^<>"), " ".join(eight))
        self.refused(InvalidOperation, in_columns, (("a",) * 9,))
        self.refused(InvalidOperation, in_columns, ((),))

    def test_strings_of_60_and_61_characters(self):
        self.assertEqual(in_columns((("x" * 60, "y"), ("a", "b"))), "x" * 60 + " y\na" + " " * 59 + " b")
        self.refused(InvalidOperation, in_columns, (("x" * 61,),))
        self.refused(InvalidOperation, in_columns, (("a", "x" * 61),))

    def test_wrong_arguments(self):
        for value in wrong_values():
            if value != ():
                self.refused(InvalidOperation, in_columns, value) if not (isinstance(value, tuple) and value == ()) else None
            if not (isinstance(value, str) and len(value) <= 60 and value.isprintable()):
                self.refused(InvalidOperation, in_columns, ((value,),))
                self.refused(InvalidOperation, in_columns, (("a", value),))
            if not (isinstance(value, tuple) and len(value) == 1 and isinstance(value[0], str)):
                self.refused(InvalidOperation, in_columns, (("a",), value))
            if value != "":
                self.refused(InvalidOperation, in_columns, (("a",),), sides=value)
        for rows in (["a"], (["a"],), "a", ("a",), (("a",), ("a", "b")), (("a", "b"), ("a",)), (("a\n",),), ([("a",)],), {}, None):
            self.refused(InvalidOperation, in_columns, rows)
        for sides in ("<", "<<<", "<x", ["<", "<"], ("<", "<"), "< "):
            self.refused(InvalidOperation, in_columns, (("a", "b"),), sides=sides)

    def test_random_rows(self):
        dice = random.Random(141)
        for _ in range(200):
            many = dice.randint(1, 8)
            rows = tuple(tuple("".join(dice.choice("ab ~") for _ in range(dice.choice((0, 1, 3, 60)))) for _ in range(many)) for _ in range(dice.randint(1, 4)))
            sides, fill, between = "".join(dice.choice("<>^") for _ in range(many)), dice.choice(" .*"), dice.choice(("", "|", " "))
            lines = []
            for row in rows:
                parts = []
                for at, text in enumerate(row):
                    width = max(len(other[at]) for other in rows)
                    # Python's ^ puts one more behind, too.
                    parts.append(f"{text:{fill}{sides[at]}{width}}")
                lines.append(between.join(parts))
            self.assertEqual(in_columns(rows, sides=sides, fill=fill, between=between), "\n".join(lines))


class Bases(Case):
    def test_the_day(self):
        self.assert_same(base_columns(DAY, "order"), "5 1 living 1\n5 3 gone   1\n6 2 living 1\n7 3 gone   1")
        self.assert_same(base_columns(DAY, "item"), "5 100 living 1\n5 200 gone   1\n6 100 living 1")
        self.assert_same(base_columns(Base.empty(SHOP), "item"), "")

    def test_widths(self):
        scheme = Scheme(Table("t", 4))
        base = Base(scheme, living={"t": ((-1, 20, 3, GREAT), (-10, 2, 30, -4))}, gone={"t": ((-1, 20, 3, GREAT),) * 12})
        self.assertEqual(base_columns(base, "t").split("\n"), [
            f"-10  2 30 {-4:>20} living  1", f" -1 20  3 {GREAT} living  1", f" -1 20  3 {GREAT} gone   12"])

    def test_the_lines_of_the_text(self):
        dice = random.Random(142)
        for scheme in some_schemes():
            for _ in range(10):
                base = random_base(dice, scheme)
                lines = []
                for name in scheme.names:
                    for line in base_columns(base, name).split("\n") if base_columns(base, name) else []:
                        *row, word, many = line.split()
                        lines.append(f"{name} {','.join(row)} {word}" + (f" {many}" if word == "gone" else ""))
                self.assertEqual("\n".join(lines), format_base(base))

    def test_wrong_arguments(self):
        for value in wrong_values():
            if not isinstance(value, Base):
                self.refused(InvalidBase, base_columns, value, "order")
                self.refused(InvalidBase, base_columns, value, value)
            if value != "buyer":
                self.refused_with(UnknownName, {"word": value}, base_columns, DAY, value)


if __name__ == "__main__":
    unittest.main()
