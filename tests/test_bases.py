"""[0.11]: bases."""

import random
import unittest

from goneunseen.base.bases import Base
from goneunseen.errors import (
    BrokenRule, InvalidBase, InvalidOperation, InvalidRow, InvalidScheme, TooMany, UnknownName)
from goneunseen.scheme.schemes import Scheme
from goneunseen.scheme.tables import Table
from tests.oracle import broken_rules, random_rows, some_schemes
from tests.values import DAY, GREAT, SHOP, TOO_GREAT, Case, wrong_but, wrong_values

PLAIN = Scheme(Table("a", 1), Table("b", 2))


class Bases(Case):
    def test_rows_in_any_order(self):
        base = Base(PLAIN, living={"b": ((2, 1), (1, 5), (1, 2))}, gone={"a": ((7,), (3,), (7,), (7,)), "b": ()})
        self.assert_same(base.living("b"), ((1, 2), (1, 5), (2, 1)))
        self.assert_same(base.living("a"), ())
        self.assertEqual(base.gone("a"), {(3,): 1, (7,): 3})
        self.assertEqual(list(base.gone("a")), [(3,), (7,)])
        self.assertEqual(base.gone("b"), {})
        self.assertEqual(base.size, 7)
        self.assertEqual(base.scheme, PLAIN)
        self.assertEqual(Base.MAX_ROWS, 100)

    def test_empty_bases(self):
        for base in (Base(SHOP), Base(SHOP, living={}, gone={}), Base.empty(SHOP), Base(SHOP, living=None, gone=None)):
            self.assertEqual(base, Base.empty(SHOP))
            self.assertEqual(base.size, 0)
            self.assertEqual([base.living(name) for name in SHOP.names], [(), (), ()])
            self.assertEqual([base.gone(name) for name in SHOP.names], [{}, {}, {}])

    def test_a_row_can_be_living_and_gone(self):
        base = Base(PLAIN, living={"a": ((1,),)}, gone={"a": ((1,), (1,))})
        self.assert_same(base["a", (1,)], (True, 2))
        self.assertEqual(base.size, 3)

    def test_schemes(self):
        for value in wrong_but(SHOP):
            self.refused(InvalidScheme, Base, value)
            self.refused(InvalidScheme, Base.empty, value)
            self.refused(InvalidScheme, Base, value, living=value, gone=value)
            self.refused(InvalidScheme, Base, value, living={"nosuch": ()}, gone={"buyer": ((1, 2),) * 101})

    def test_dicts_of_rows(self):
        for value in wrong_but(None, {}, {"buyer": ()}):
            for more in ({"living": value}, {"gone": value}, {"living": value, "gone": value}):
                self.refused(InvalidBase, Base, SHOP, **more)
        for value in wrong_but(()):
            for more in ({"living": {"buyer": value}}, {"gone": {"buyer": value}}):
                self.refused(InvalidBase, Base, SHOP, **more)
        for value in wrong_but((1, 10), (0, 0), (1, 0)):
            for rows in ((value,), ((5, 6), value)):
                self.refused(InvalidBase, Base, SHOP, living={"buyer": rows})
                self.refused(InvalidBase, Base, SHOP, gone={"buyer": rows})
        for name in ("nosuch", "Buyer", 1, None, ("buyer",), True, "self"):
            for more in ({"living": {name: ()}}, {"gone": {name: ()}}, {"gone": {"buyer": (), name: ()}}):
                self.refused(InvalidBase, Base, SHOP, **more)
        for row in ((1,), (1, 2, 3), (True, 2), (1, TOO_GREAT), [1, 2], (1, "a"), (1, None)):
            self.refused(InvalidBase, Base, SHOP, living={"buyer": (row,)})
            self.refused(InvalidBase, Base, SHOP, gone={"buyer": (row,)})
        self.refused(InvalidBase, Base, PLAIN, living={"a": ((1,), (2,), (1,))})
        self.assertEqual(Base(PLAIN, living={"a": ((GREAT,), (-GREAT,))}).living("a"), ((-GREAT,), (GREAT,)))

    def test_wrong_dicts_come_before_too_many_rows_and_those_before_broken_rules(self):
        crowd = tuple((number, 0) for number in range(101))
        twice = ((1, 1), (1, 2))
        self.refused(InvalidBase, Base, SHOP, living={"buyer": crowd}, gone={"buyer": 1})
        self.refused_with(TooMany, {"limit": 100}, Base, SHOP, living={"order": crowd + twice})
        self.refused_with(TooMany, {"limit": 100}, Base, SHOP, gone={"buyer": twice * 60})
        self.refused(BrokenRule, Base, SHOP, gone={"buyer": twice * 50})

    def test_at_most_a_hundred_stored_rows(self):
        rows = tuple((number,) for number in range(101))
        for many in (99, 100):
            self.assertEqual(Base(PLAIN, living={"a": rows[:many]}).size, many)
            self.assertEqual(Base(PLAIN, gone={"a": ((1,),) * many}).size, many)
        self.assertEqual(Base(PLAIN, living={"a": rows[:60]}, gone={"a": ((1,),) * 20, "b": ((1, 1),) * 20}).size, 100)
        self.refused_with(TooMany, {"limit": 100}, Base, PLAIN, living={"a": rows})
        self.refused_with(TooMany, {"limit": 100}, Base, PLAIN, gone={"a": ((1,),) * 101})
        self.refused_with(TooMany, {"limit": 100}, Base, PLAIN, living={"a": rows[:60]}, gone={"b": ((1, 1),) * 41})

    def breaks(self, rule, scheme, living=None, gone=None):
        self.refused_with(BrokenRule, {"rule": rule}, Base, scheme, living=living, gone=gone)

    def test_keys_of_living_rows(self):
        lax = SHOP.without(("all", "buyer"))
        self.breaks(("key", "buyer", (0,)), lax, {"buyer": ((1, 1), (1, 2))})
        self.assertEqual(Base(lax, living={"buyer": ((1, 1),)}, gone={"buyer": ((1, 1), (1, 2), (1, 2))}).size, 4)
        pair = Scheme(Table("a", 3, key=(0, 2)))
        self.breaks(("key", "a", (0, 2)), pair, {"a": ((1, 1, 2), (1, 2, 2))})
        self.assertEqual(Base(pair, living={"a": ((1, 1, 2), (1, 1, 3), (2, 1, 2))}).size, 3)

    def test_keys_of_all_rows(self):
        rule = ("all", "buyer")
        self.breaks(rule, SHOP, {"buyer": ((1, 1), (1, 2))})
        self.breaks(rule, SHOP, {"buyer": ((1, 1),)}, {"buyer": ((1, 2),)})
        self.breaks(rule, SHOP, {"buyer": ((1, 1),)}, {"buyer": ((1, 1),)})
        self.breaks(rule, SHOP, None, {"buyer": ((1, 1), (1, 2))})
        self.breaks(rule, SHOP, None, {"buyer": ((1, 1), (1, 1))})
        self.assertEqual(Base(SHOP, living={"buyer": ((1, 1),)}, gone={"buyer": ((2, 1), (3, 1))}).size, 3)

    def test_references_of_living_rows(self):
        rule = ("refers", "order", (1,), "buyer")
        self.breaks(rule, SHOP, {"order": ((5, 1),)})
        self.breaks(rule, SHOP, {"order": ((5, 1),)}, {"buyer": ((1, 10),)})
        self.breaks(rule, SHOP, {"order": ((5, 1),), "buyer": ((2, 10),)})
        self.assertEqual(Base(SHOP, living={"order": ((5, 1),), "buyer": ((1, 10),)}).size, 2)
        self.assertEqual(Base(SHOP, gone={"order": ((5, 1),), "item": ((1, 10),)}).size, 2)

    def test_the_first_broken_rule_counts(self):
        buyers, orders, items = ((3, 1), (3, 2)), ((5, 1), (5, 2)), ((9, 9),)
        lax = SHOP.without(("all", "buyer"))
        self.breaks(("all", "buyer"), SHOP, {"buyer": buyers, "order": orders, "item": items})
        self.breaks(("key", "buyer", (0,)), lax, {"item": items, "order": orders, "buyer": buyers})
        self.breaks(("key", "order", (0,)), SHOP, {"item": items, "order": orders})
        self.breaks(("refers", "item", (0,), "order"), SHOP, {"item": items, "order": orders[:1]})
        self.breaks(("refers", "order", (1,), "buyer"), SHOP, {"order": orders[:1]})

    def test_broken_rules_as_judged_one_by_one(self):
        dice = random.Random(3)
        for scheme in some_schemes():
            for _ in range(150):
                living, gone = random_rows(dice, scheme)
                broken = broken_rules(scheme, living, gone)
                if broken:
                    self.breaks(broken[0], scheme, living, gone)
                else:
                    base = Base(scheme, living=living, gone=gone)
                    for name in scheme.names:
                        self.assertEqual(base.living(name), tuple(sorted(living[name])))
                        self.assertEqual(base.gone(name), {row: gone[name].count(row) for row in gone[name]})

    def test_living_and_gone_ask_for_a_table(self):
        for value in wrong_but("buyer"):
            self.refused_with(UnknownName, {"word": value}, DAY.living, value)
            self.refused_with(UnknownName, {"word": value}, DAY.gone, value)

    def test_what_is_told_of_a_row(self):
        self.assert_same(
            [DAY["buyer", (1, 10)], DAY["order", (7, 3)], DAY["item", (9, 9)], DAY["order", (3, 30)]],
            [(True, 0), (False, 1), (False, 0), (False, 0)])
        for value in wrong_values():
            if value != "buyer":
                self.refused_with(UnknownName, {"word": value}, lambda at: DAY[at, (1, 10)], value)
                self.refused_with(UnknownName, {"word": value}, lambda at: DAY[at, at], value)
        for value in wrong_but((1, 10), (0, 0), (1, 0)):
            self.refused(InvalidRow, lambda at: DAY["buyer", at], value)

    def test_pairs_in_a_base(self):
        for pair in (("buyer", (1, 10)), ("buyer", (3, 30)), ("order", (5, 1)), ("order", (5, 3)), ("item", (5, 200))):
            self.assertIs(pair in DAY, True)
        for pair in (
                ("buyer", (1, 11)), ("order", (1, 10)), ("nosuch", (1, 10)), ["buyer", (1, 10)], ("buyer", [1, 10]),
                ("buyer", (True, 10)), ("buyer", (1, 10), 1), ("buyer",), "buyer", (1, 10), (["buyer"], (1, 10)),
                ("buyer", (1, 10, 0)), ("buyer", {}), ({}, {})):
            self.assertIs(pair in DAY, False)
        for value in wrong_but(("buyer", (1, 10))):
            self.assertIs(value in DAY, False)

    def test_alive(self):
        alive = DAY.alive()
        self.assertEqual([alive.living(name) for name in SHOP.names], [DAY.living(name) for name in SHOP.names])
        self.assertEqual([alive.gone(name) for name in SHOP.names], [{}, {}, {}])
        self.assertEqual(alive.scheme, SHOP)

    def test_on_another_scheme(self):
        lax = SHOP.without(("all", "buyer"))
        moved = DAY.on(lax)
        self.assertEqual(moved.scheme, lax)
        self.assertEqual([moved.living(name) for name in SHOP.names], [DAY.living(name) for name in SHOP.names])
        self.assertEqual([moved.gone(name) for name in SHOP.names], [DAY.gone(name) for name in SHOP.names])
        self.assertEqual(moved.on(SHOP), DAY)
        many = Base(lax, gone={"buyer": ((1, 1), (1, 1))})
        self.assertEqual(many.on(lax), many)
        self.refused_with(BrokenRule, {"rule": ("all", "buyer")}, many.on, SHOP)
        for value in wrong_but(SHOP):
            self.refused(InvalidScheme, DAY.on, value)
        tables = list(SHOP)
        self.refused(InvalidOperation, DAY.on, Scheme(*tables[:2]))
        self.refused(InvalidOperation, DAY.on, Scheme(*tables, Table("a", 1)))
        self.refused(InvalidOperation, many.on, Scheme(*tables[:2], Table("item", 3, refers=(((0,), "order"),))))
        self.refused(InvalidOperation, Base(PLAIN).on, Scheme(Table("b", 2), Table("a", 1)))

    def test_equality(self):
        parts = {name: DAY.living(name) for name in SHOP.names}
        copies = {name: tuple(DAY.gone(name)) for name in SHOP.names}
        self.assertTrue(DAY == Base(SHOP, living=parts, gone=copies))
        self.assertFalse(DAY != Base(SHOP, living=parts, gone=copies))
        for other in (
                DAY.alive(), Base(SHOP, gone=copies), DAY.on(SHOP.without(("all", "buyer"))),
                Base(SHOP, living=parts, gone={**copies, "item": ((5, 200), (5, 200))}),
                Base(SHOP, living={**parts, "item": ()}, gone=copies)):
            self.assertFalse(DAY == other)
            self.assertTrue(DAY != other)
        self.assert_unlike_all(Base.empty(SHOP))
        self.assert_unlike_all(DAY, [DAY])

    def test_text(self):
        self.assertEqual(str(DAY), "base of 6 living rows, 4 copies")
        self.assertEqual(str(Base(PLAIN, living={"a": ((1,),)}, gone={"a": ((1,), (1,))})), "base of 1 living rows, 2 copies")
        self.assertEqual(str(Base(PLAIN)), "base of 0 living rows, 0 copies")

    def test_nothing_gives_access_to_a_base(self):
        living, gone = {"a": ((1,),)}, {"a": ((2,),)}
        base = Base(PLAIN, living=living, gone=gone)
        living["a"] = ((3,),)
        gone["b"] = ((1, 1),)
        del gone["a"]
        told = base.gone("a")
        told[(5,)] = 7
        told.clear()
        self.assertEqual(base, Base(PLAIN, living={"a": ((1,),)}, gone={"a": ((2,),)}))
        self.assertEqual(living, {"a": ((3,),)})
        self.assert_not_iterable(base)
        for name in ("scheme", "size"):
            with self.assertRaises(AttributeError):
                setattr(base, name, None)


if __name__ == "__main__":
    unittest.main()
