"""[0.12], [0.16]: rules, with and without parts."""

import itertools
import unittest

from goneunseen.ask.places import Place
from goneunseen.ask.rules import Rule, tables_fit
from goneunseen.errors import InvalidNumber, InvalidOperation, InvalidRule, InvalidScheme
from goneunseen.scheme.names import is_name, is_term
from goneunseen.scheme.schemes import Scheme
from goneunseen.scheme.tables import Table
from tests.values import GREAT, SHOP, TOO_GREAT, Case, wrong_but, wrong_values

A, B, C, D = Place("a", "x", "y"), +Place("b", "y", 7), Place("c", "z"), Place("d", "x", "x", 3, "z")
RULE = Rule(("z", 5, "x"), A, B, C)
CHECK = Rule(("z", "y", "x"), A, B, C, without=((D,), (+Place("e", "own", -2), Place("f", "own"))))


def good_places(value):
    return isinstance(value, tuple) and 1 <= len(value) <= 6 and all(isinstance(place, Place) for place in value)


class Rules(Case):
    def both_refuse(self, head, *places, **more):
        self.refused(InvalidRule, Rule, head, *places, **more)
        self.refused(InvalidRule, Rule.of, head, places, **more)

    def test_properties(self):
        self.assert_same(RULE.head, ("z", 5, "x"))
        self.assert_same(RULE.places, (A, B, C))
        self.assert_same(RULE.parts, ())
        self.assert_same(RULE.listed, (A, B, C))
        self.assert_same(RULE.variables, ("x", "y", "z"))
        self.assert_same(RULE.integers, (5, 7))
        self.assertEqual(len(RULE), 3)
        self.assertEqual(list(RULE), [A, B, C])

    def test_properties_with_parts(self):
        self.assert_same(CHECK.head, ("z", "y", "x"))
        self.assert_same(CHECK.places, (A, B, C))
        self.assert_same(CHECK.parts, ((D,), (+Place("e", "own", -2), Place("f", "own"))))
        self.assert_same(CHECK.listed, (A, B, C))
        # The variables of parts do not count, their integers do.
        self.assert_same(CHECK.variables, ("x", "y", "z"))
        self.assert_same(CHECK.integers, (-2, 3, 7))
        self.assertEqual(len(CHECK), 3)
        self.assertEqual(list(CHECK), [A, B, C])

    def test_variables_and_integers_ascend_without_duplicates(self):
        for terms in itertools.permutations(("d", "bb", "b", 10)):
            rule = Rule((9, 9), Place("a", *terms), Place("b", "c", -GREAT, 9, "d"), Place("c", *terms))
            self.assert_same(rule.variables, ("b", "bb", "c", "d"))
            self.assert_same(rule.integers, (-GREAT, 9, 10))
        self.assert_same(Rule((), Place("a", 1)).variables, ())
        self.assert_same(Rule((), Place("a", "x")).integers, ())
        self.assert_same(Rule((3, 1), Place("a", "x")).integers, (1, 3))

    def test_of(self):
        self.assertEqual(Rule.of(("z", 5, "x"), (A, B, C)), RULE)
        self.assertEqual(Rule.of(("z", "y", "x"), (A, B, C), without=CHECK.parts), CHECK)
        self.assertEqual(Rule.of((), (A,), without=()), Rule((), A))
        for value in wrong_values():
            if not good_places(value):
                self.refused(InvalidRule, Rule.of, (), value)
        self.refused(InvalidRule, Rule.of, (), [A])
        self.refused(InvalidRule, Rule.of, (), A)
        self.refused(InvalidRule, Rule.of, (), RULE)

    def test_heads_have_at_most_four_terms(self):
        for many in range(5):
            self.assertEqual(Rule(("x", 1, "y", "x")[:many], A).head, ("x", 1, "y", "x")[:many])
        self.both_refuse(("x",) * 5, A)
        self.both_refuse((1, 2, 3, 4, 5), A)
        for value in wrong_values():
            if not (isinstance(value, tuple) and len(value) <= 4 and all(is_term(term) for term in value)):
                self.both_refuse(value, A)
                self.both_refuse(value, value)
                self.both_refuse(value, A, without=value)
            if not is_term(value):
                self.both_refuse((value,), A)
                self.both_refuse(("x", value), A)
        self.both_refuse((True,), A)
        self.both_refuse((TOO_GREAT,), A)
        self.both_refuse(["x"], A)

    def test_one_to_six_places(self):
        for many in range(1, 7):
            self.assertEqual(len(Rule(("x",), *[A] * many)), many)
        self.both_refuse(())
        self.both_refuse((), *[A] * 7)
        for value in wrong_values():
            if not isinstance(value, Place):
                self.both_refuse((), value)
                self.both_refuse(("x",), A, value)

    def test_variables_of_the_head_stand_in_a_place(self):
        self.both_refuse(("w",), A)
        self.both_refuse(("x", "w"), A, C)
        self.both_refuse(("z",), A, B)
        self.both_refuse(("own", "x", "y", "z"), A, B, C, without=CHECK.parts)
        self.both_refuse(("own", "x"), Place("a", "x"), without=((Place("b", "own"),),))
        self.assertEqual(Rule(("y", "x", "z", "y"), A, C).head, ("y", "x", "z", "y"))

    def test_at_most_three_parts(self):
        for many in range(4):
            self.assertEqual(len(Rule(("x", "y"), A, without=((C,),) * many).parts), many)
        self.both_refuse(("x", "y"), A, without=((C,),) * 4)

    def test_places_and_those_of_one_part_are_at_most_six(self):
        for places in range(1, 6):
            for many in range(1, 7):
                parts = ((C,), (D,) * many)
                if places + many <= 6:
                    self.assertEqual(Rule(("x", "y"), *[A] * places, without=parts).parts, parts)
                    self.assertEqual(Rule(("x", "y"), *[A] * places, without=((D,) * many,) * 3).parts, ((D,) * many,) * 3)
                else:
                    self.both_refuse(("x", "y"), *[A] * places, without=parts)
                    self.both_refuse(("x", "y"), *[A] * places, without=parts[::-1])
        self.both_refuse(("x", "y"), *[A] * 6, without=((C,),))

    def test_with_parts_the_head_has_all_variables_of_the_places(self):
        self.both_refuse(("x",), A, without=((C,),))
        self.both_refuse((), C, without=((C,),))
        self.both_refuse(("x", "y", "z"), A, Place("b", "z", "w"), without=((C,),))
        self.assertEqual(Rule(("y", "x", "y", 4), A, without=((C,),)).head, ("y", "x", "y", 4))
        self.assertEqual(Rule((), Place("a", 1), without=((C,),)).parts, ((C,),))

    def test_wrong_parts(self):
        for value in wrong_values():
            if not (isinstance(value, tuple) and len(value) <= 3 and all(good_places(part) for part in value)):
                self.both_refuse(("x", "y"), A, without=value)
            if not good_places(value):
                self.both_refuse(("x", "y"), A, without=(value,))
                self.both_refuse(("x", "y"), A, without=((C,), value))
            if not isinstance(value, Place):
                self.both_refuse(("x", "y"), A, without=((C, value),))
        self.both_refuse(("x", "y"), A, without=((),))
        self.both_refuse(("x", "y"), A, without=(C,))
        self.both_refuse(("x", "y"), A, without=[(C,)])
        self.both_refuse(("x", "y"), A, without=([C],))
        self.both_refuse(("x", "y"), A, without=None)

    def test_indexes(self):
        self.assertEqual([RULE[0], RULE[1], RULE[2]], [A, B, C])
        self.assertEqual(CHECK[2], C)
        for value in wrong_but(0, 1, 2):
            self.refused_with(InvalidNumber, {"number": value}, lambda: RULE[value])
        for value in (3, -1, 10 ** 30, True, False, "0", None, (0,), [0]):
            self.refused_with(InvalidNumber, {"number": value}, lambda: RULE[value])
            self.refused_with(InvalidNumber, {"number": value}, lambda: CHECK[value])
        self.refused_with(InvalidNumber, {"number": 1}, lambda: Rule((), A)[1])

    def test_in(self):
        for place in (A, B, C):
            self.assertIs(place in RULE, True)
            self.assertIs(~place in RULE, False)
            self.assertIs(place in CHECK, True)
        self.assertIs(D in CHECK, False)
        self.assertIs(Place("f", "own") in CHECK, False)
        for value in wrong_values():
            self.assertIs(value in RULE, False)
            self.assertIs(value in CHECK, False)

    def test_equality(self):
        self.assertTrue(RULE == Rule(("z", 5, "x"), A, B, C))
        self.assertTrue(CHECK == Rule(("z", "y", "x"), A, B, C, without=CHECK.parts))
        for other in (
                Rule(("z", 6, "x"), A, B, C), Rule(("x", 5, "z"), A, B, C), Rule(("z", 5), A, B, C), Rule(("z", 5, "x"), A, C, B),
                Rule(("z", 5, "x"), A, ~B, C), Rule(("z", 5, "x"), A, B, C, C)):
            self.assertTrue(RULE != other)
            self.assertFalse(RULE == other)
        for parts in ((), CHECK.parts[::-1], CHECK.parts[:1], ((~D,), CHECK.parts[1]), CHECK.parts + ((D,),)):
            self.assertTrue(CHECK != Rule(CHECK.head, A, B, C, without=parts))
            self.assertFalse(CHECK == Rule(CHECK.head, A, B, C, without=parts))
        self.assert_unlike_all(RULE)
        self.assert_unlike_all(CHECK)

    def test_text(self):
        self.assertEqual(str(RULE), "(z, 5, x) if a(x, y), +b(y, 7), c(z)")
        self.assertEqual(str(CHECK), "(z, y, x) if a(x, y), +b(y, 7), c(z) without d(x, x, 3, z) without +e(own, -2), f(own)")
        self.assertEqual(str(Rule((), C)), "() if c(z)")
        self.assertEqual(str(Rule(("z",), C, without=((A, B),) * 3)), "(z) if c(z)" + " without a(x, y), +b(y, 7)" * 3)
        self.assertEqual(str(Rule((-1, 2), Place("order", "o", 5), +Place("item", "o", "t"))), "(-1, 2) if order(o, 5), +item(o, t)")

    def test_and(self):
        self.assertEqual(RULE & D, Rule(("z", 5, "x"), A, B, C, D))
        self.assertEqual(RULE & +C & B, Rule(("z", 5, "x"), A, B, C, +C, B))
        self.assertEqual(CHECK & A, Rule(("z", "y", "x"), A, B, C, A, without=CHECK.parts))
        self.assertEqual(len(RULE), 3)
        for value in wrong_values():
            if not isinstance(value, Place):
                self.refused(InvalidRule, lambda: RULE & value)
                self.refused(InvalidRule, lambda: CHECK & value)
        self.refused(InvalidRule, lambda: RULE & RULE)
        self.refused(InvalidRule, lambda: Rule((), *[A] * 6) & A)
        self.refused(InvalidRule, lambda: CHECK & Place("a", "w", "x"))
        self.refused(InvalidRule, lambda: CHECK & A & A)
        self.assertEqual(len(Rule((), *[A] * 5) & A), 6)

    def test_renamed(self):
        names = {"x": "y", "y": "x", "z": "own", "q": "r"}
        self.assertEqual(
            RULE.renamed(names), Rule(("own", 5, "y"), Place("a", "y", "x"), +Place("b", "x", 7), Place("c", "own")))
        self.assertEqual(CHECK.renamed(names), Rule(
            ("own", "x", "y"), Place("a", "y", "x"), +Place("b", "x", 7), Place("c", "own"),
            without=((Place("d", "y", "y", 3, "own"),), CHECK.parts[1])))
        self.assertEqual(CHECK.renamed({"own": "x"}).parts, (CHECK.parts[0], (+Place("e", "x", -2), Place("f", "x"))))
        self.assertEqual(RULE.renamed({"x": "y", "y": "z"}), Rule(("z", 5, "y"), Place("a", "y", "z"), +Place("b", "z", 7), C))
        self.assertEqual(RULE.renamed({"x": "z", "y": "z"}).variables, ("z",))
        self.assertEqual(RULE.renamed({}), RULE)
        self.assertEqual(CHECK.renamed({}), CHECK)
        self.assertEqual(RULE.renamed({"a": "b", "b": "c", "abcdefgh": "hgfedcba"}), RULE)
        self.assertEqual(names, {"x": "y", "y": "x", "z": "own", "q": "r"})

    def test_renamed_refuses(self):
        for value in wrong_values():
            if not (isinstance(value, dict) and all(is_name(name) and is_name(value[name]) for name in value)):
                self.refused(InvalidOperation, RULE.renamed, value)
            if not is_name(value):
                self.refused(InvalidOperation, RULE.renamed, {"x": value})
                self.refused(InvalidOperation, RULE.renamed, {"x": "y", "nosuch": value})
        for names in ({1: "x"}, {"X": "x"}, {"x": "y", "": "z"}, {True: "x"}, {"x": 1}, [("x", "y")], (("x", "y"),), {("x",): "y"}):
            self.refused(InvalidOperation, RULE.renamed, names)

    def test_no_change(self):
        for name in ("head", "places", "parts", "variables", "integers", "listed"):
            with self.assertRaises(AttributeError):
                setattr(RULE, name, None)


class TablesFit(Case):
    SCHEME = Scheme(Table("a", 2), Table("b", 2), Table("c", 1))

    def test_sources_and_widths(self):
        for rule, expected in (
                (Rule((), A, B, C), True), (Rule(("x",), A), True), (Rule((), D), False), (Rule((), A, Place("e", "x")), False),
                (Rule((), Place("a", "x")), False), (Rule((), Place("a", "x", "y", "z")), False), (Rule((), C, Place("c", 1, 2)), False),
                (Rule((), Place("c", 1), Place("c", 1), Place("b", 1)), False)):
            self.assertIs(tables_fit(self.SCHEME, rule), expected)

    def test_places_of_parts(self):
        for parts, expected in (
                (((A,),), True), (((A, B), (C,)), True), (((D,),), False), (((A,), (B, D)), False), (((A,), (B,), (Place("c", 1, 2),)), False),
                (((Place("b", 1), A),), False)):
            self.assertIs(tables_fit(self.SCHEME, Rule(("z",), C, without=parts)), expected)

    def test_wrong_arguments(self):
        for value in wrong_values():
            if not isinstance(value, Scheme):
                self.refused(InvalidScheme, tables_fit, value, RULE)
                self.refused(InvalidScheme, tables_fit, value, value)
            if not isinstance(value, Rule):
                self.refused(InvalidRule, tables_fit, SHOP, value)


if __name__ == "__main__":
    unittest.main()
