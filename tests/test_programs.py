"""[0.12], [0.13], stage 8: programs and how they are unfolded."""

import itertools
import random
import unittest

from goneunseen.ask.answers import answers
from goneunseen.ask.places import Place
from goneunseen.ask.programs import Program, below, origins, unfolded
from goneunseen.ask.rules import Rule
from goneunseen.ask.spots import Spots
from goneunseen.base.bases import Base
from goneunseen.errors import (
    InvalidBase, InvalidOperation, InvalidProgram, InvalidScheme, TooMany, UnknownName)
from goneunseen.scheme.names import is_name
from goneunseen.scheme.schemes import Scheme
from goneunseen.scheme.tables import Table
from tests.oracle import some_schemes
from tests.values import DAY, SALES, SHOP, Case, wrong_but, wrong_values
from tests.views import random_base, random_program, told_numbers, unfold

PLAIN = Scheme(Table("t", 2), Table("s", 1), Table("r", 4))
T, S = Place("t", "x", "y"), Place("s", "x")
ONE = Rule(("x",), T)


def told(program, name):
    return [str(rule) for rule in unfolded(program, name)]


class Programs(Case):
    def both_refuse(self, scheme, error=InvalidProgram, kept=(), **views):
        self.refused_with(error, dict(kept), Program, scheme, **views)
        self.refused_with(error, dict(kept), Program.of, scheme, views)

    def test_properties(self):
        self.assertEqual(SALES.scheme, SHOP)
        self.assert_same(SALES.names, ("bought", "parts", "towns"))
        self.assertEqual(SALES.places, Spots(
            ("bought", 0, 0), ("bought", 0, 1), ("bought", 0, 2), ("parts", 0, 0), ("parts", 0, 1)))
        self.assertEqual(SALES.free, Spots(("bought", 0, 0), ("bought", 0, 1), ("parts", 0, 1)))
        self.assertIsInstance(SALES.places, Spots)
        for name in ("scheme", "names", "places", "free"):
            with self.assertRaises(AttributeError):
                setattr(SALES, name, None)

    def test_views(self):
        two = Program(PLAIN, v=(ONE, Rule(("y",), T, S)), w=ONE)
        self.assert_same(two["v"], (ONE, Rule(("y",), T, S)))
        self.assert_same(two["w"], (ONE,))
        self.assertEqual(two.places, Spots(("v", 0, 0), ("v", 1, 0), ("v", 1, 1), ("w", 0, 0)))
        self.assertEqual(Program(PLAIN, v=(ONE,)), Program(PLAIN, v=ONE))
        self.assertEqual(len(Program(PLAIN, v=(ONE,) * 3)["v"]), 3)
        for name in two.names:
            self.assertIs(name in two, True)
        for value in wrong_but("v", "w"):
            self.assertIs(value in two, False)
            self.refused_with(UnknownName, {"word": value}, lambda: two[value])
        for value in ("t", "x", "", "V", ("v",), ["v"], None, 0):
            self.assertIs(value in two, False)
            self.refused_with(UnknownName, {"word": value}, lambda: two[value])

    def test_the_order_of_views(self):
        for names in itertools.permutations(("a", "c", "b")):
            views = {name: ONE for name in names}
            self.assert_same(Program(PLAIN, **views).names, names)
            self.assert_same(Program.of(PLAIN, views).names, names)

    def test_names_of_any_kind(self):
        names = ("self", "scheme", "head", "source", "of", "views", "cls", "names", "abcdefgh", "in", "program", "name")
        for name in names:
            found = Program.of(PLAIN, {name: ONE, "last": Rule((name,), Place(name, name))})
            self.assertEqual(found.names, (name, "last"))
            self.assertEqual(told(found, "last"), ["(a) if t(a, b)"])
            self.assertEqual(str(found["last"][0]), f"({name}) if {name}({name})")
            self.assertEqual(found + Spots((name, 0, 0)) - Spots((name, 0, 0)), found)
            self.assertEqual(found.under(PLAIN), found)
            self.assertEqual(found(Base.empty(PLAIN)), {name: (), "last": ()})
            if name not in ("self", "scheme"):
                self.assertEqual(Program(PLAIN, **{name: ONE}).names, (name,))

    def test_of_refuses(self):
        for value in wrong_values():
            if not isinstance(value, Scheme):
                self.refused(InvalidScheme, Program.of, value, {"v": ONE})
                self.refused(InvalidScheme, Program.of, value, value)
                self.refused(InvalidScheme, Program, value, v=ONE)
                self.refused(InvalidScheme, Program, value, v=value)
                self.refused(InvalidScheme, Program, value)
            self.refused(InvalidProgram, Program.of, PLAIN, value)
            if not is_name(value):
                try:
                    views = {value: ONE}
                except TypeError:
                    continue
                self.refused(InvalidProgram, Program.of, PLAIN, views)
                self.refused(InvalidProgram, Program.of, PLAIN, {"v": ONE, **views})
        self.refused(InvalidProgram, Program.of, PLAIN, (("v", ONE),))
        self.refused(InvalidProgram, Program.of, PLAIN, SALES)
        self.refused(InvalidProgram, Program.of, PLAIN, {})

    def test_one_to_four_views(self):
        self.both_refuse(PLAIN)
        views = {name: ONE for name in "abcde"}
        self.both_refuse(PLAIN, **views)
        del views["e"]
        self.assertEqual(len(Program(PLAIN, **views).names), 4)

    def test_names_of_views(self):
        self.both_refuse(PLAIN, t=ONE)
        self.both_refuse(PLAIN, v=ONE, s=ONE)
        for name in ("", "V", "v_1", "abcdefghi", "v1", "_of", "a b"):
            self.both_refuse(PLAIN, **{name: ONE})
            self.both_refuse(PLAIN, **{"v": ONE, name: ONE})

    def test_one_to_three_rules(self):
        self.both_refuse(PLAIN, v=())
        self.both_refuse(PLAIN, v=(ONE,) * 4)
        for value in wrong_values():
            if not isinstance(value, Rule):
                self.both_refuse(PLAIN, v=(value,))
                self.both_refuse(PLAIN, v=(ONE, value))
            if not (isinstance(value, tuple) and value and isinstance(value[0], Rule)) and not isinstance(value, Rule):
                self.both_refuse(PLAIN, v=value)
                self.both_refuse(PLAIN, u=ONE, v=value)
        self.both_refuse(PLAIN, v=[ONE])
        self.both_refuse(PLAIN, v=(ONE, Rule(("x",), S, without=((T,),))))
        self.both_refuse(PLAIN, v=Rule(("x",), S, without=((T,),)))

    def test_heads_of_one_length(self):
        self.both_refuse(PLAIN, v=(ONE, Rule((), T)))
        self.both_refuse(PLAIN, v=(ONE, ONE, Rule(("x", "y"), T)))
        self.assertEqual(len(Program(PLAIN, v=(Rule((1, "x"), S), Rule(("y", "x"), T)))["v"]), 2)

    def test_sources_and_terms(self):
        self.both_refuse(PLAIN, v=Rule((), Place("nosuch", "x")))
        self.both_refuse(PLAIN, v=Rule((), Place("t", "x")))
        self.both_refuse(PLAIN, v=Rule((), T, Place("s", "x", "y")))
        self.both_refuse(PLAIN, v=Rule((), Place("v", "x")))
        self.both_refuse(PLAIN, v=Rule(("x",), Place("w", "x")), w=ONE)
        self.both_refuse(PLAIN, v=ONE, w=Rule((), Place("v", "x", "y")))
        self.both_refuse(PLAIN, v=Rule(("x", "y"), T), w=Rule((), T, Place("v", "x")))
        self.both_refuse(PLAIN, v=Rule((), T), w=Rule((), Place("v", "x")))
        self.both_refuse(PLAIN, v=(ONE, Rule((), Place("r", "x", "y", "z"))))
        self.assertEqual(told(Program(PLAIN, v=ONE, w=Rule((), Place("v", 5))), "w"), ["() if t(5, a)"])

    def test_places_of_views_are_free(self):
        self.both_refuse(PLAIN, v=ONE, w=Rule((), +Place("v", "x")))
        self.both_refuse(PLAIN, v=ONE, w=(Rule((), T), Rule((), T, +Place("v", "x"))))
        self.assertEqual(Program(PLAIN, v=Rule((), +T)).free, Spots())

    def test_twelve_choices(self):
        three = (ONE, Rule(("x",), S), Rule((7,), T))
        a, b = Place("a", "x"), Place("a", "y")
        wide = (Rule((), a, b), Rule((), a), Rule((), T))
        self.assertEqual(len(told(Program(PLAIN, a=three, b=wide[:2]), "b")), 12)
        self.both_refuse(PLAIN, TooMany, {"limit": 12}, a=three, b=wide)
        self.both_refuse(PLAIN, TooMany, {"limit": 12}, a=three, b=Rule((), a, b, Place("a", "z")))
        four = Program(PLAIN, a=three[:2], b=Rule(("x", "y"), a, b), c=(Rule((), Place("b", "x", "y"), a), Rule((), Place("b", "x", "x"))))
        self.assertEqual(len(told(four, "b")), 4)
        self.assertEqual(len(told(four, "c")), 12)
        self.both_refuse(
            PLAIN, TooMany, {"limit": 12}, a=three[:2], b=Rule(("x", "y"), a, b),
            c=(Rule((), Place("b", "x", "y"), a), Rule((), Place("b", "x", "x")), Rule((), S)))

    def test_choices_that_are_left_out_count(self):
        three = (Rule((1,), S), Rule((2,), S), Rule((3,), S))
        one = Rule((), Place("a", 1), Place("a", 2))
        found = Program(PLAIN, a=three, b=(one, Rule((), Place("a", 3))))
        self.assertEqual(told(found, "b"), ["() if s(a), s(b)", "() if s(a)"])
        self.both_refuse(PLAIN, TooMany, {"limit": 12}, a=three, b=(one, Rule((), Place("a", 3)), Rule((), S)))
        self.both_refuse(PLAIN, TooMany, {"limit": 12}, a=three, b=Rule((), *[Place("a", 4)] * 3))
        # Only what is not left out counts for the next view.
        found = Program(PLAIN, a=three, b=Rule(("x",), Place("a", "x"), Place("a", 2)), c=Rule((), Place("b", "x"), Place("b", "y"), S))
        self.assertEqual([len(told(found, name)) for name in "abc"], [3, 3, 9])
        found = Program(PLAIN, a=three, b=Rule((5,), Place("a", 5)), c=Rule((), *[Place("a", "x")] * 5, Place("b", 5)))
        self.assertEqual([told(found, "b"), told(found, "c")], [[], []])
        found = Program(PLAIN, a=three, b=Rule((5,), Place("a", 5)), c=(Rule((), Place("b", "x")), Rule((), T)))
        self.assertEqual(told(found, "c"), ["() if t(a, b)"])

    def test_six_places(self):
        three = Rule(("x",), S, S, T)
        self.assertEqual(len(unfolded(Program(PLAIN, a=three, b=Rule((), Place("a", "x"), Place("a", "y"))), "b")[0]), 6)
        self.both_refuse(PLAIN, TooMany, {"limit": 6}, a=three, b=Rule((), Place("a", "x"), S, Place("a", "y")))
        self.both_refuse(PLAIN, TooMany, {"limit": 6}, a=three, b=(ONE, Rule(("x",), *[Place("a", "x")] * 6)))
        self.assertEqual(len(unfolded(Program(PLAIN, a=Rule((), *[T] * 6)), "a")[0]), 6)

    def test_only_what_is_not_left_out_has_too_many_places(self):
        two = (Rule((1,), *[T] * 6), Rule((2,), S))
        found = Program(PLAIN, a=two, b=Rule((), Place("a", 2), S))
        self.assertEqual(told(found, "b"), ["() if s(a), s(b)"])
        self.both_refuse(PLAIN, TooMany, {"limit": 6}, a=two, b=Rule((), Place("a", 1), S))

    def test_the_first_error_counts(self):
        three = (Rule(("x",), *[T] * 3), Rule(("x",), S), Rule((7,), T))
        a = Place("a", "x")
        wide, long = Rule((), a, a, a), Rule((), Place("a", "x"), *[T] * 4)
        self.both_refuse(PLAIN, TooMany, {"limit": 12}, a=three, b=wide, c=long)
        self.both_refuse(PLAIN, TooMany, {"limit": 6}, a=three, b=long, c=wide)
        self.both_refuse(PLAIN, TooMany, {"limit": 12}, a=three, b=(long, wide))
        self.both_refuse(PLAIN, a=three, b=long, c=wide, d=Rule((), Place("nosuch", 1)))
        self.both_refuse(PLAIN, a=three, b=long, c=wide, d=5)

    def test_equality(self):
        self.assertTrue(SALES == Program.of(SHOP, {name: SALES[name] for name in SALES.names}))
        self.assertFalse(SALES != Program(SHOP, bought=SALES["bought"], parts=SALES["parts"], towns=SALES["towns"]))
        lax = SHOP.without(("all", "buyer"))
        for other in (
                Program(SHOP, bought=SALES["bought"], towns=SALES["towns"], parts=SALES["parts"]), SALES.under(lax),
                Program(SHOP, bought=SALES["bought"], parts=SALES["parts"]), SALES + Spots(("bought", 0, 0)),
                Program(SHOP, bought=SALES["bought"] * 2, parts=SALES["parts"], towns=SALES["towns"])):
            self.assertFalse(SALES == other)
            self.assertTrue(SALES != other)
        self.assert_unlike_all(SALES, equals=(SALES,))

    def test_filters(self):
        free = SALES - SALES.places
        self.assertEqual(free.free, SALES.places)
        self.assertEqual((free + SALES.places).free, Spots())
        self.assertEqual((SALES + Spots(("parts", 0, 1))).free, SALES.free - Spots(("parts", 0, 1)))
        self.assertEqual(SALES + Spots(("bought", 0, 2)), SALES)
        self.assertEqual(SALES - Spots(("bought", 0, 1)), SALES)
        self.assertEqual(SALES + Spots(), SALES)
        self.assertEqual(str((SALES - Spots(("bought", 0, 2)))["bought"][0]), "(t, p) if order(o, b), buyer(b, t), item(o, p)")
        self.assertEqual((SALES + Spots(("bought", 0, 0)))["towns"], SALES["towns"])
        self.assertEqual(told(SALES + Spots(("bought", 0, 0)), "towns"), ["(a) if +order(b, c), buyer(c, a), +item(b, d)"])
        two = Program(PLAIN, v=(ONE, Rule(("x",), T, T)), w=ONE)
        self.assertEqual([str(rule) for rule in (two + Spots(("v", 1, 0)))["v"]], ["(x) if t(x, y)", "(x) if +t(x, y), t(x, y)"])
        self.assertEqual((two + Spots(("v", 1, 0), ("w", 0, 0)))["w"], (Rule(("x",), +T),))

    def test_filters_at_other_spots_are_refused(self):
        for value in wrong_values():
            if not isinstance(value, Spots) or not value.within(SALES.places):
                self.refused(InvalidOperation, lambda: SALES + value)
                self.refused(InvalidOperation, lambda: SALES - value)
        for spot in (("towns", 0, 0), ("bought", 1, 0), ("bought", 0, 3), ("nosuch", 0, 0), ("order", 0, 0), ("bought", 0, 10 ** 40)):
            for spots in (Spots(spot), Spots(("bought", 0, 0), spot)):
                self.refused(InvalidOperation, lambda: SALES + spots)
                self.refused(InvalidOperation, lambda: SALES - spots)
        self.refused(InvalidOperation, lambda: SALES + SALES)
        self.refused(InvalidOperation, lambda: SALES - ("bought", 0, 0))

    def test_under(self):
        lax = SHOP.without(("all", "buyer")).without(("refers", "item", (0,), "order"))
        other = SALES.under(lax)
        self.assertEqual(other.scheme, lax)
        self.assertEqual([other[name] for name in other.names], [SALES[name] for name in SALES.names])
        self.assertEqual(other.names, SALES.names)
        self.assertEqual(other.under(SHOP), SALES)
        for value in wrong_values():
            if not isinstance(value, Scheme):
                self.refused(InvalidScheme, SALES.under, value)
        tables = [SHOP[name] for name in SHOP.names]
        for scheme in (
                PLAIN, Scheme(*tables[:2]), Scheme(Table("buyer", 2), Table("item", 2), Table("order", 2)),
                Scheme(*tables[:2], Table("item", 3)), Scheme(*tables, Table("more", 1)), Scheme(*tables[:2], Table("items", 2))):
            self.refused(InvalidOperation, SALES.under, scheme)

    def test_iteration_is_refused(self):
        self.assert_not_iterable(SALES)

    def test_calls(self):
        found = SALES(DAY)
        self.assertEqual(list(found), ["bought", "parts", "towns"])
        self.assertIs(type(found), dict)
        for name in SALES.names:
            self.assert_same(found[name], answers(SALES, name, DAY))
        self.assertEqual(list(Program(PLAIN, z=ONE, a=ONE)(Base.empty(PLAIN))), ["z", "a"])
        found["bought"] = ()
        self.assertEqual(SALES(DAY)["bought"], answers(SALES, "bought", DAY))
        for value in wrong_but(DAY):
            self.refused(InvalidBase, SALES, value)
        self.refused(InvalidBase, SALES, DAY.on(SHOP.without(("all", "buyer"))))
        rows = tuple((number,) for number in range(37))
        many = Program(PLAIN, v=Rule((), S), w=Rule((), S, S, S))
        self.refused_with(TooMany, {"limit": 50000}, many, Base(PLAIN, living={"s": rows}))
        self.assertEqual(many(Base(PLAIN, living={"s": rows[:36]})), {"v": ((),), "w": ((),)})

    def test_what_is_passed_gives_no_access(self):
        views = {"v": ONE, "w": ONE}
        found = Program.of(PLAIN, views)
        views["v"] = Rule((), S)
        del views["w"]
        self.assertEqual(found, Program(PLAIN, v=ONE, w=ONE))


class Unfolding(Case):
    def test_choices_in_the_order_of_nested_loops(self):
        program = Program(
            PLAIN, a=(Rule(("x",), S), Rule(("y",), T)), b=(Rule(("x", "y"), Place("a", "x"), +S, Place("a", "y")), Rule(("x", 4), S)))
        self.assertEqual(told(program, "b"), [
            "(a, b) if s(a), +s(a), s(b)", "(a, b) if s(a), +s(a), t(c, b)", "(a, b) if t(c, a), +s(a), s(b)",
            "(a, b) if t(c, a), +s(a), t(d, b)", "(a, 4) if s(a)"])
        self.assertEqual(origins(program, "b"), (
            (("a", 0, 0), ("b", 0, 1), ("a", 0, 0)), (("a", 0, 0), ("b", 0, 1), ("a", 1, 0)), (("a", 1, 0), ("b", 0, 1), ("a", 0, 0)),
            (("a", 1, 0), ("b", 0, 1), ("a", 1, 0)), (("b", 1, 0),)))

    def test_places_are_replaced_where_they_stand(self):
        program = Program(PLAIN, a=Rule(("x",), T, +S), b=Rule(("z",), S, Place("a", "z"), Place("s", "w")))
        self.assertEqual(told(program, "b"), ["(a) if s(b), t(a, c), +s(a), s(d)"])
        self.assertEqual(origins(program, "b"), ((("b", 0, 0), ("a", 0, 0), ("a", 0, 1), ("b", 0, 2)),))

    def test_variables_in_the_order_in_which_they_first_stand(self):
        program = Program(PLAIN, v=Rule(("z", 3, "b"), Place("t", "q", "a"), Place("r", "b", "z", "a", "c")))
        self.assertEqual(told(program, "v"), ["(a, 3, b) if t(c, d), r(b, a, d, e)"])
        most = Rule((), *[Place("r", *[first + second for second in "abcd"]) for first in "ghijkl"])
        self.assertEqual(
            told(Program(PLAIN, v=most), "v"),
            ["() if r(a, b, c, d), r(e, f, g, h), r(i, j, k, l), r(m, n, o, p), r(q, r, s, t), r(u, v, w, x)"])

    def test_heads_are_equated_with_the_terms_of_the_place(self):
        two = Rule(("x", "x"), S)
        self.assertEqual(told(Program(PLAIN, a=two, b=Rule(("p", "q"), Place("a", "p", "q"))), "b"), ["(a, a) if s(a)"])
        self.assertEqual(told(Program(PLAIN, a=two, b=Rule(("p",), Place("a", "p", 5), T)), "b"), ["(5) if s(5), t(a, b)"])
        self.assertEqual(told(Program(PLAIN, a=two, b=Rule((), Place("a", 5, 5))), "b"), ["() if s(5)"])
        self.assertEqual(told(Program(PLAIN, a=two, b=Rule((), Place("a", 5, 6))), "b"), [])
        self.assertEqual(
            told(Program(PLAIN, a=Rule((5, "y"), T), b=Rule(("p",), Place("a", "p", "q"), Place("t", "q", "p"))), "b"),
            ["(5) if t(a, b), t(b, 5)"])
        self.assertEqual(
            told(Program(PLAIN, a=(Rule((1,), S), Rule((2,), S), Rule(("x",), T)), b=Rule((), Place("a", 2))), "b"),
            ["() if s(a)", "() if t(2, a)"])
        # Two places equate one variable with two integers.
        self.assertEqual(told(Program(PLAIN, a=(Rule((1,), S), Rule((2,), S)), b=Rule(("x",), Place("a", "x"), Place("a", "x"))), "b"), [
            "(1) if s(a), s(b)", "(2) if s(a), s(b)"])
        # Terms are equated through other terms.
        chain = Program(PLAIN, a=two, b=Rule((), Place("a", "x", "y"), Place("a", "y", "z"), Place("a", "z", 4), Place("a", 3, "x")))
        self.assertEqual(told(chain, "b"), [])

    def test_variables_are_new_for_each_place(self):
        program = Program(PLAIN, a=Rule(("x",), T), b=Rule(("y",), Place("a", "y"), Place("a", "y"), Place("t", "y", "x")))
        self.assertEqual(told(program, "b"), ["(a) if t(a, b), t(a, c), t(a, d)"])

    def test_views_over_views_over_views(self):
        program = Program(
            PLAIN, a=(Rule(("x",), S), Rule(("x",), +T)), b=Rule(("x", "y"), Place("a", "x"), Place("a", "y")),
            c=Rule(("y",), Place("b", 1, "y")), d=(Rule((), Place("c", 2), S), Rule((), Place("a", 9))))
        self.assertEqual(len(told(program, "c")), 4)
        self.assertEqual(told(program, "c")[1], "(a) if s(1), +t(a, b)")
        self.assertEqual(told(program, "d")[2], "() if +t(1, a), s(2), s(b)")
        self.assertEqual(origins(program, "d")[2], (("a", 1, 0), ("a", 0, 0), ("d", 0, 1)))
        self.assertEqual(told(program, "d")[-1], "() if +t(9, a)")

    def test_below(self):
        program = Program(
            PLAIN, a=(Rule(("x",), S), Rule((1,), T)), b=Rule((), T), c=Rule(("x",), Place("a", "x"), S), d=Rule((), Place("c", 2)))
        self.assertEqual(below(program, "a"), Spots(("a", 0, 0), ("a", 1, 0)))
        self.assertEqual(below(program, "b"), Spots(("b", 0, 0)))
        self.assertEqual(below(program, "c"), Spots(("a", 0, 0), ("a", 1, 0), ("c", 0, 1)))
        self.assertEqual(below(program, "d"), Spots(("a", 0, 0), ("a", 1, 0), ("c", 0, 1)))
        # What other views use is not below a view.
        later = Program(PLAIN, a=Rule(("x",), S), b=Rule(("x",), S), c=Rule(("x",), Place("b", "x")))
        self.assertEqual([below(later, name) for name in "abc"], [Spots(("a", 0, 0)), Spots(("b", 0, 0)), Spots(("b", 0, 0))])
        # Also what stands in choices that are left out.
        empty = Program(PLAIN, a=Rule((1,), S), b=Rule((), Place("a", 2), T))
        self.assertEqual([told(empty, "b"), below(empty, "b")], [[], Spots(("a", 0, 0), ("b", 0, 1))])
        self.assertEqual([below(SALES, name) for name in SALES.names], [
            Spots(("bought", 0, 0), ("bought", 0, 1), ("bought", 0, 2)), Spots(("parts", 0, 0), ("parts", 0, 1)),
            Spots(("bought", 0, 0), ("bought", 0, 1), ("bought", 0, 2))])

    def test_wrong_arguments(self):
        for function in (unfolded, origins, below):
            for value in wrong_values():
                if not isinstance(value, Program):
                    self.refused(InvalidProgram, function, value, "bought")
                    self.refused(InvalidProgram, function, value, value)
                self.refused_with(UnknownName, {"word": value}, function, SALES, value)
            self.refused_with(UnknownName, {"word": "order"}, function, SALES, "order")

    def test_random_programs(self):
        dice = random.Random(7)
        seen = 0
        for scheme in some_schemes():
            for _ in range(60):
                program = random_program(dice, scheme)
                if program is None:
                    continue
                seen += 1
                expected = unfold(program)
                for name in program.names:
                    rules = unfolded(program, name)
                    self.assertIsInstance(rules, tuple)
                    self.assertEqual(list(zip(map(str, rules), origins(program, name))), expected[name])
                    for rule, spots in zip(rules, origins(program, name)):
                        self.assertTrue(Spots(*spots).within(below(program, name)))
                        for place, (view, index, at) in zip(rule, spots):
                            origin = program[view][index][at]
                            self.assertEqual((place.source, place.filtered), (origin.source, origin.filtered))
        self.assertGreater(seen, 200)

    def test_programs_made_from_others_are_those_made_anew(self):
        # Also if their unfolded rules were asked for before, or were not.
        dice = random.Random(9)
        for scheme in some_schemes():
            for _ in range(40):
                program = random_program(dice, scheme)
                if program is None:
                    continue
                loose = scheme
                for rule in scheme.rules:
                    if rule[0] != "key" and dice.random() < 0.5:
                        loose = loose.without(rule)
                some = Spots(*[spot for spot in program.places if dice.random() < 0.5])
                for is_asked in (False, True):
                    for made in (program + some, program - some, program + program.places, program - program.places, program.under(loose), (program + some).under(loose) - program.places):
                        views = {name: made[name] for name in made.names}
                        anew = Program.of(made.scheme, views)
                        self.assertEqual(made, anew)
                        for name in made.names:
                            self.assertEqual(list(zip(map(str, unfolded(made, name)), origins(made, name))), unfold(anew)[name])
                            self.assertEqual(unfolded(made, name), unfolded(anew, name))
                        self.assertEqual([made.places, made.free], [anew.places, anew.free])
                    if not is_asked:
                        for name in program.names:
                            unfolded(program, name)

    def test_unfolded_rules_tell_what_the_views_tell(self):
        dice = random.Random(8)
        for scheme in some_schemes():
            for _ in range(25):
                program, base = random_program(dice, scheme), random_base(dice, scheme)
                if program is not None:
                    for name, counts in told_numbers(program, base).items():
                        self.assertEqual(answers(program, name, base), tuple(sorted(counts)))
                        self.assertEqual(program(base)[name], tuple(sorted(counts)))


if __name__ == "__main__":
    unittest.main()
