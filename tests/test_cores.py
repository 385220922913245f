"""[12.1], stage 12: cores."""

import random
import unittest

from goneunseen.ask.places import Place
from goneunseen.ask.rules import Rule
from goneunseen.errors import InvalidOperation, InvalidRule, InvalidScheme
from goneunseen.frozen.cores import core, is_core, unreferred
from goneunseen.frozen.frozen import frozen, is_frozen
from goneunseen.scheme.names import is_row
from goneunseen.scheme.schemes import Scheme
from goneunseen.scheme.tables import Table
from tests.freezing import chains, folds, freeze, integers_of, with_integers
from tests.oracle import picked, some_schemes
from tests.values import SALES, SHOP, TOO_GREAT, Case, wrong_values
from tests.views import random_rule

PARTS = SALES["parts"][0]
PLAIN = Scheme(Table("t", 2), Table("s", 1))
EMPTY = Rule((), Place("order", "o", 1), Place("order", "o", 2))
PARTED = Rule(("o", "p"), Place("item", "o", "p"), without=((Place("item", "p", "o"),),))


def t(*terms):
    return Place("t", *terms)


def ordered(scheme, image):
    return tuple((name, row) for name in scheme.names for row in sorted(row for other, row in image if other == name))


class Cores(Case):
    def check(self, scheme, rule, most=3000):
        """Compares with all folds if they are not too many; returns the rows of the core by tables."""
        value, fold, rows = found = core(scheme, rule)
        self.assertIs(is_frozen(scheme, rule, value, living=True), True)
        self.assertIs(is_core(scheme, rule, found), True)
        self.assertEqual(list(fold), integers_of(value[0]))
        if len(fold) ** len(fold) <= most:
            images = {}
            for other, image in folds(scheme, rule, value):
                images.setdefault(len(image), []).append((other, image))
            self.assertIn((fold, set(rows)), images[min(images)])
            self.assertEqual(rows, ordered(scheme, set(rows)))
            for many in images:
                for other, image in images[many][:5]:
                    self.assertIs(is_core(scheme, rule, (value, other, ordered(scheme, image))), many == min(images))
        return [len([row for other, row in rows if other == name]) for name in scheme.names]

    def test_folds_one_after_another(self):
        # What is found first is not yet a core here.
        for head, places in (
                (("w",), [t("u", "z"), t("w", "w"), Place("s", "x"), t("u", "y"), t("u", "y"), t("v", "v")]),
                (("u", "w"), [t("v", "y"), t("w", "v"), t("w", "u"), t("u", "x"), t("z", "y"), t("v", "x")]),
                (("u", "z"), [t("z", "z"), t("z", "y"), Place("s", "w"), t("v", "u"), Place("s", "v"), Place("s", "v")]),
                (("x", "y"), [Place("s", "v"), t("z", "x"), t("z", "z"), t("x", "y"), Place("s", "y"), t("w", "y")])):
            self.check(PLAIN, Rule(head, *places), 10 ** 6)

    def test_sizes(self):
        for places, head, expected in (
                ([t("x", "y"), t("x", "z")], (), 1), ([t("x", "y"), t("x", "z")], ("y", "z"), 2), ([t("x", "y"), t("x", "z")], ("y",), 1),
                ([t("x", "y"), t("y", "x")], (), 2), ([t("x", "y"), t("y", "z")], (), 2), ([t("x", "y"), t("z", "z")], (), 1),
                ([t("x", 1), t("y", 1)], (), 1), ([t("x", 1), t("x", 2)], (), 2), ([t("x", 1), t("x", "y")], (), 1),
                ([t("x", 1), t("x", "y")], ("y",), 2), ([t("a", "b"), t("b", "c"), t("c", "d"), t("p", "q")], (), 3),
                ([t("a", "b"), t("b", "c"), t("c", "a"), t("p", "p")], (), 1), ([t("a", "b"), t("b", "a"), t("c", "d"), t("d", "c")], (), 2),
                ([t("a", "b"), t("b", "a"), t("c", "d"), t("d", "e"), t("e", "c")], (), 5),
                ([t("a", "b"), t("b", "c"), t("c", "d"), t("d", "e"), t("e", "f"), t("f", "a")], (), 6),
                ([t("a", "b"), t("c", "b"), t("c", "d"), t("a", "d")], (), 1), ([t("x", "y"), t("x", "y")], ("x",), 1)):
            self.assertEqual(self.check(PLAIN, Rule(head, *places)), [expected, 0], (head, [str(place) for place in places]))

    def test_rows_that_are_referred_to(self):
        item = Place("item", "o", "p")
        self.assertEqual(self.check(SHOP, Rule(("o",), item, Place("item", "o", "q"))), [1, 1, 1])
        self.assertEqual(self.check(SHOP, Rule(("p", "q"), item, Place("item", "o", "q"))), [1, 1, 2])
        self.assertEqual(self.check(SHOP, Rule((), item, Place("item", "x", "y"))), [1, 1, 1])
        self.assertEqual(self.check(SHOP, Rule(("o", "x"), item, Place("item", "x", "y"))), [2, 2, 2])
        self.assertEqual(self.check(SHOP, Rule((), item, Place("order", "x", "y"), Place("buyer", "z", "w"))), [1, 1, 1])
        self.assertEqual(self.check(SHOP, Rule(("z",), item, Place("order", "x", "y"), Place("buyer", "z", "w"))), [2, 1, 1])
        for scheme in chains():
            looped = self.check(scheme, Rule((), Place("d", "u", "u")))
            self.assertEqual(self.check(scheme, Rule((), Place("d", "x", "y"), Place("d", "y", "z"), Place("d", "u", "u"))), looped)

    def test_a_fold_may_exchange_what_it_keeps(self):
        # Onto the cycle of two from a longer one there are ways that turn the cycle round.
        rule = Rule((), t("a", "b"), t("b", "a"), t("c", "d"), t("d", "e"), t("e", "f"), t("f", "c"))
        value, fold, rows = core(PLAIN, rule)
        self.assertEqual(len(rows), 2)
        self.assertTrue(all(fold[fold[number]] == fold[number] for number in fold))
        self.assertIs(is_core(PLAIN, rule, (value, fold, rows)), True)
        turned = {number: next(part for _, row in rows for part in row if part != fold[number]) for number in fold}
        self.assertIs(is_core(PLAIN, rule, (value, turned, rows)), False)
        self.check(PLAIN, Rule((), t("c", "d"), t("d", "e"), t("e", "f"), t("f", "c"), t("a", "b"), t("b", "a")), 0)

    def test_up_to_42_rows(self):
        scheme = Scheme(
            Table("a", 2, key=(0,)), Table("b", 4, key=(0,), refers=(((1,), "a"), ((2,), "a"))),
            Table("c", 4, key=(0,), refers=(((1,), "b"), ((2,), "b"))))
        places = [Place("c", *[letter + other for other in "wxyz"]) for letter in "abcdef"]
        self.assertEqual(self.check(scheme, Rule((), *places)), [4, 2, 1])
        self.assertEqual(self.check(scheme, Rule(tuple(letter + "w" for letter in "abcd"), *places)), [16, 8, 4])
        self.assertEqual(frozen(scheme, Rule((), *places), living=True)[0].size, 42)

    def test_random_rules(self):
        dice = random.Random(42)
        compared = 0
        for scheme in [*some_schemes(), *chains()]:
            sources = [(table.name, table.width, True) for table in scheme]
            for _ in range(40):
                rule = random_rule(dice, sources, 4)
                if frozen(scheme, rule, living=True) is not None:
                    self.check(scheme, rule)
                    compared += len(core(scheme, rule)[1]) <= 5
        self.assertGreater(compared, 100)

    def test_other_new_integers(self):
        dice = random.Random(43)
        rule = Rule(("o",), Place("item", "o", "p"), Place("item", "o", "q"))
        for _ in range(5):
            value = with_integers(dice, SHOP, rule, freeze(dice, SHOP, rule, True))
            first, second = value[1][0][0][1], value[1][1][0][1]
            for gone, kept in ((first, second), (second, first)):
                fold = {number: kept if number == gone else number for number in integers_of(value[0])[::-1]}
                rows = tuple((name, row) for name in SHOP.names for row in value[0].living(name) if gone not in row)
                self.assertIs(is_core(SHOP, rule, (value, fold, rows)), True)
                self.assertIs(is_core(SHOP, rule, (value, {number: number for number in fold}, rows)), False)
                whole = tuple((name, row) for name in SHOP.names for row in value[0].living(name))
                self.assertIs(is_core(SHOP, rule, (value, {number: number for number in fold}, whole)), False)
                self.assertIs(is_core(SHOP, rule, (value, fold, whole)), False)

    def test_the_order_of_the_rows(self):
        rule = Rule(("x", "y", "z"), t("x", "y"), t("y", "z"), Place("s", "z"))
        value, fold, rows = core(PLAIN, rule)
        self.assertEqual([name for name, _ in rows], ["t", "t", "s"])
        self.assertEqual(list(rows[:2]), sorted(rows[:2]))
        for other in (rows[::-1], (rows[1], rows[0], rows[2]), rows[1:] + rows[:1], rows + rows[:1], list(rows), rows[:2]):
            self.assertIs(is_core(PLAIN, rule, (value, fold, other)), False)
        self.assertIs(is_core(PLAIN, rule, (value, {number: fold[number] for number in list(fold)[::-1]}, rows)), True)

    def test_no_folds(self):
        # x is kept by the head, 1 as it stands in the rule.
        rule = Rule(("x",), t("x", "y"), t("x", 1))
        value, fold, rows = core(PLAIN, rule)
        x, y = value[1][0][0]
        self.assertEqual([fold, rows], [dict(sorted({x: x, y: 1, 1: 1}.items())), (("t", (x, 1)),)])
        for wrong in (
                {x: x, y: 1}, {x: x, y: 1, 1: 1, 77: 77}, {x: y, y: 1, 1: 1}, {x: x, y: y, 1: y}, {x: x, y: 77, 1: 1}, {x: x, y: x, 1: 1},
                {x: x, y: True, 1: 1}, {x: x, y: 1, True: 1}, {x: x, y: 1, 1: True}, {x: x, y: "1", 1: 1}, {}, [(x, x), (y, 1), (1, 1)], None):
            self.assertIs(is_core(PLAIN, rule, (value, wrong, rows)), False, wrong)
        # What is carried elsewhere is not carried to.
        rule = Rule((), t("x", "y"), t("y", "z"), t("w", "w"))
        value, fold, rows = core(PLAIN, rule)
        w = value[1][2][0][0]
        x, y = value[1][0][0]
        z = value[1][1][0][1]
        self.assertEqual(rows, (("t", (w, w)),))
        self.assertIs(is_core(PLAIN, rule, (value, {x: w, y: w, z: w, w: w}, rows)), True)
        rule = Rule((), t("x", "y"), t("y", "x"), t("u", "v"), t("v", "u"))
        value = frozen(PLAIN, rule, living=True)
        (x, y), (u, v) = value[1][0][0], value[1][2][0]
        rows = ordered(PLAIN, {("t", (x, y)), ("t", (y, x))})
        self.assertIs(is_core(PLAIN, rule, (value, {x: x, y: y, u: x, v: y}, rows)), True)
        self.assertIs(is_core(PLAIN, rule, (value, {x: x, y: y, u: y, v: x}, rows)), True)
        self.assertIs(is_core(PLAIN, rule, (value, {x: y, y: x, u: x, v: y}, rows)), False)
        self.assertIs(is_core(PLAIN, rule, (value, {x: x, y: y, u: x, v: x}, rows)), False)

    def test_what_a_fold_keeps(self):
        # In each of these, one row could be carried to the other, but for what is kept.
        for rule, expected in (
                (Rule(("x",), t("x", "y"), t("z", "w")), [True, False]), (Rule((), t("x", "y"), t("z", "w")), [True, True]),
                (Rule((), t(1, "y"), t("z", "w")), [True, False]), (Rule((), t("x", 1), t("z", 1)), [True, True]),
                (Rule(("z",), t("x", 1), t("z", "w")), [False, False])):
            value = frozen(PLAIN, rule, living=True)
            (first, _), (second, _) = value[1]
            for one, other, is_right in zip((first, second), (second, first), expected):
                fold = {**dict(zip(one, one)), **dict(zip(other, one))}
                self.assertIs(is_core(PLAIN, rule, (value, fold, (("t", one),))), is_right, str(rule))
        # Some integers are kept, but not those to which others are carried.
        rule = Rule(("k",), t("x", "y"), t("y", "x"), t("u", "v"), t("v", "u"), Place("s", "k"))
        value = frozen(PLAIN, rule, living=True)
        (x, y), (u, v), (k,) = value[1][0][0], value[1][2][0], value[1][4][0]
        rows = ordered(PLAIN, {("t", (x, y)), ("t", (y, x)), ("s", (k,))})
        self.assertIs(is_core(PLAIN, rule, (value, {x: x, y: y, u: x, v: y, k: k}, rows)), True)
        self.assertIs(is_core(PLAIN, rule, (value, {x: y, y: x, u: x, v: y, k: k}, rows)), False)
        self.assertIs(is_core(PLAIN, rule, (value, {x: y, y: x, u: y, v: x, k: k}, rows)), False)

    def test_wrong_values(self):
        value, fold, rows = found = core(SHOP, PARTS)
        self.assertIs(is_core(SHOP, PARTS, found), True)
        self.assertIs(is_core(SHOP, PARTS, list(found)), False)
        self.assertIs(is_core(SHOP, PARTS, found + (0,)), False)
        self.assertIs(is_core(SHOP, PARTS, found[:2]), False)
        self.assertIs(is_core(SHOP, PARTS, (frozen(SHOP, PARTS), fold, rows)), False)
        self.assertIs(is_core(SHOP, PARTS, (None, fold, rows)), False)
        for wrong in wrong_values():
            self.assertIs(is_core(SHOP, PARTS, wrong), False)
            self.assertIs(is_core(SHOP, PARTS, (wrong, fold, rows)), False)
            self.assertIs(is_core(SHOP, PARTS, (value, wrong, rows)), False)
            self.assertIs(is_core(SHOP, PARTS, (value, fold, wrong)), False)
            self.assertIs(is_core(SHOP, PARTS, (value, fold, rows[:-1] + (wrong,))), False)
            self.assertIs(is_core(SHOP, PARTS, (value, fold, rows[:-1] + (("item", wrong),))), False)
            if not (type(wrong) is int and wrong == fold[list(fold)[0]]):
                self.assertIs(is_core(SHOP, PARTS, (value, {**fold, list(fold)[0]: wrong}, rows)), False)
        rule = Rule(("x",), Place("s", "x"))
        base = frozen(PLAIN, rule, living=True)
        one = ((base[0].on(PLAIN), base[1], base[2]), {base[2][0]: base[2][0]}, (("s", base[2]),))
        self.assertIs(is_core(PLAIN, rule, one), True)
        at_one = frozen(PLAIN, rule, living=True, avoid=(0,))
        self.assertEqual(at_one[2], (1,))
        self.assertIs(is_core(PLAIN, rule, (at_one, {1: 1}, (("s", (1,)),))), True)
        for wrong in ((at_one, {True: 1}, (("s", (1,)),)), (at_one, {1: True}, (("s", (1,)),)), (at_one, {1: 1}, (("s", (True,)),))):
            self.assertIs(is_core(PLAIN, rule, wrong), False)

    def test_wrong_arguments(self):
        for function in (core, lambda scheme, rule: is_core(scheme, rule, None)):
            for value in wrong_values():
                if not isinstance(value, Scheme):
                    self.refused(InvalidScheme, function, value, PARTS)
                    self.refused(InvalidScheme, function, value, value)
                self.refused(InvalidRule, function, SHOP, value)
            self.refused(InvalidRule, function, SHOP, PARTED)
            self.refused(InvalidRule, function, PLAIN, PARTS)
            self.refused(InvalidRule, function, SHOP, SALES["towns"][0])
            self.refused(InvalidOperation, function, SHOP, EMPTY)
            self.refused(InvalidOperation, function, SHOP, Rule((), *[+place for place in EMPTY]))
        self.assertIsNotNone(frozen(SHOP, EMPTY))


class Unreferred(Case):
    def test_rows_to_which_none_refers(self):
        rows = (("item", (5, 1)), ("buyer", (1, 10)), ("order", (5, 1)), ("buyer", (2, 20)), ("order", (6, 3)), ("order", (5, 9)))
        self.assertEqual(unreferred(SHOP, rows), (("item", (5, 1)), ("buyer", (2, 20)), ("order", (6, 3))))
        self.assertEqual(unreferred(SHOP, rows[::-1]), (("order", (6, 3)), ("buyer", (2, 20)), ("item", (5, 1))))
        self.assertEqual(unreferred(SHOP, ()), ())
        self.assertEqual(unreferred(SHOP, rows[1:2]), rows[1:2])
        self.assertEqual(unreferred(SHOP, (("buyer", (1, 10)), ("item", (1, 1)))), (("buyer", (1, 10)), ("item", (1, 1))))

    def test_columns_of_keys_and_references(self):
        scheme = Scheme(Table("p", 3, key=(0, 2)), Table("q", 2, key=(1,)), Table("r", 2, refers=(((1, 0), "p"), ((0,), "q"))))
        rows = (("p", (1, 9, 2)), ("p", (2, 9, 1)), ("q", (5, 2)), ("q", (2, 5)), ("r", (2, 1)))
        self.assertEqual(unreferred(scheme, rows), (("p", (2, 9, 1)), ("q", (2, 5)), ("r", (2, 1))))

    def test_random_rows(self):
        dice = random.Random(44)
        for scheme in [*some_schemes(), *chains()]:
            for _ in range(60):
                rows = {(table.name, tuple(dice.randint(0, 2) for _ in range(table.width))): True for table in [dice.choice(list(scheme)) for _ in range(6)]}
                def is_referred(name, row):
                    return any(
                        target == name and picked(other, columns) == picked(row, scheme[name].key)
                        for table, other in rows for columns, target in scheme[table].refers)
                self.assertEqual(unreferred(scheme, tuple(rows)), tuple(pair for pair in rows if not is_referred(*pair)))

    def test_wrong_arguments(self):
        good = ("buyer", (1, 10))
        for value in wrong_values():
            if not isinstance(value, Scheme):
                self.refused(InvalidScheme, unreferred, value, ())
                self.refused(InvalidScheme, unreferred, value, value)
            if not (isinstance(value, tuple) and value == ()):
                self.refused(InvalidOperation, unreferred, SHOP, value)
            if value != ("buyer", (1, 10)):
                self.refused(InvalidOperation, unreferred, SHOP, (value,))
                self.refused(InvalidOperation, unreferred, SHOP, (good, value))
            if not (is_row(value) and len(value) == 2):
                self.refused(InvalidOperation, unreferred, SHOP, (("buyer", value),))
            if value not in SHOP:
                self.refused(InvalidOperation, unreferred, SHOP, ((value, (1, 10)),))
        for rows in (
                (good, good), [good], (["buyer", (1, 10)],), (("buyer", [1, 10]),), (("buyer", (1,)),), (("buyer", (1, 10, 1)),),
                (("nosuch", (1, 10)),), (("buyer", (True, 10)),), (("buyer", (1, TOO_GREAT)),), (good + (0,),), good, (("buyer",),)):
            self.refused(InvalidOperation, unreferred, SHOP, rows)


if __name__ == "__main__":
    unittest.main()
