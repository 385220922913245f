"""[4.1]: the store and its commands."""

import random
import unittest

from goneunseen.base.bases import Base
from goneunseen.errors import (
    InvalidCommand, InvalidNumber, InvalidOperation, InvalidRow, InvalidScheme, KeyTaken, Missing, NotGone, NotLiving,
    Referred, TooMany, UnknownName)
from goneunseen.scheme.names import is_name, is_row
from goneunseen.scheme.schemes import Scheme
from goneunseen.scheme.tables import Table
from goneunseen.store.stores import Store
from tests.oracle import Model, random_command, random_model, random_row, some_schemes
from tests.values import DAY, SHOP, TOO_GREAT, Case, wrong_but, wrong_values

LAX = SHOP.without(("all", "buyer"))
PLAIN = Scheme(Table("a", 1), Table("b", 2))
WORDS = ("put", "take", "back", "purge")


def filled(scheme, *commands):
    """A store behind these commands."""
    store = Store(scheme)
    for command in commands:
        store.do(command)
    return store


def day():
    """A store with the base of the examples."""
    store = Store(SHOP)
    for name in ("item", "order", "buyer"):
        for row in DAY.gone(name):
            if name == "item":
                store.put("buyer", (9, 9))
                store.put("order", (row[0], 9))
                store.put("item", row)
                store.take("item", row)
                store.mark("order", (row[0], 9), None)
                store.mark("buyer", (9, 9), None)
            elif name == "order":
                store.put("buyer", (row[1], 9))
                store.put("order", row)
                store.take("order", row)
                store.mark("buyer", (row[1], 9), None)
            else:
                store.put("buyer", row)
                store.take("buyer", row)
    for name in SHOP.names:
        for row in DAY.living(name):
            store.put(name, row)
    return store


class Stores(Case):
    def unchanged(self, store, error, kept, call, *args, **more):
        """Asserts that the call is refused, and that it changes nothing."""
        base = store.base
        self.refused_with(error, kept, call, *args, **more)
        self.assertEqual(store.base, base)

    def test_a_new_store_is_empty(self):
        store = Store(SHOP)
        self.assertEqual(store.scheme, SHOP)
        self.assertEqual(store.base, Base.empty(SHOP))
        self.assertEqual(len(store), 0)
        for value in wrong_but(SHOP):
            self.refused(InvalidScheme, Store, value)

    def test_the_base_is_as_it_is_now(self):
        store = Store(PLAIN)
        before = store.base
        store.put("a", (1,))
        self.assertEqual(before, Base.empty(PLAIN))
        self.assertEqual(store.base, Base(PLAIN, living={"a": ((1,),)}))
        self.assertEqual(day().base, DAY)

    def test_put(self):
        store = Store(SHOP)
        self.assert_same(store.put("buyer", (1, 10)), (("put", "buyer", (1, 10)),))
        self.assert_same(store["buyer", (1, 10)], "living")
        self.unchanged(store, KeyTaken, {"row": (1, 10)}, store.put, "buyer", (1, 10))
        self.unchanged(store, KeyTaken, {"row": (1, 10)}, store.put, "buyer", (1, 20))
        self.unchanged(store, Missing, {"table": "buyer", "wanted": (2,)}, store.put, "order", (5, 2))
        store.take("buyer", (1, 10))
        self.unchanged(store, KeyTaken, {"row": (1, 10)}, store.put, "buyer", (1, 20))
        self.unchanged(store, KeyTaken, {"row": (1, 10)}, store.put, "buyer", (1, 10))
        self.unchanged(store, Missing, {"table": "buyer", "wanted": (1,)}, store.put, "order", (5, 1))

    def test_put_with_a_living_key(self):
        store = filled(LAX, ("put", "buyer", (1, 10)), ("take", "buyer", (1, 10)))
        self.assertEqual(store.put("buyer", (1, 20)), (("put", "buyer", (1, 20)),))
        self.unchanged(store, KeyTaken, {"row": (1, 20)}, store.put, "buyer", (1, 10))
        store.take("buyer", (1, 20))
        self.assertEqual(store.put("buyer", (1, 10)), (("put", "buyer", (1, 10)),))
        self.assert_same(store.base["buyer", (1, 10)], (True, 1))

    def test_put_without_a_key(self):
        store = filled(PLAIN, ("put", "b", (1, 1)), ("put", "b", (1, 2)), ("take", "b", (1, 1)))
        store.put("b", (1, 1))
        self.unchanged(store, KeyTaken, {"row": (1, 1)}, store.put, "b", (1, 1))
        self.assert_same(store.base["b", (1, 1)], (True, 1))

    def test_put_names_the_first_reference_that_lacks_its_row(self):
        scheme = Scheme(
            Table("a", 1, key=(0,)), Table("b", 1, key=(0,)),
            Table("c", 3, refers=(((2,), "b"), ((0,), "b"), ((1,), "a"))))
        store = filled(scheme, ("put", "a", (1,)), ("put", "b", (3,)))
        self.unchanged(store, Missing, {"table": "b", "wanted": (8,)}, store.put, "c", (8, 9, 7))
        self.unchanged(store, Missing, {"table": "a", "wanted": (9,)}, store.put, "c", (3, 9, 7))
        self.unchanged(store, Missing, {"table": "b", "wanted": (7,)}, store.put, "c", (3, 1, 7))
        self.assertEqual(store.put("c", (3, 1, 3)), (("put", "c", (3, 1, 3)),))

    def test_at_most_a_hundred_stored_rows(self):
        store = Store(SHOP)
        for number in range(99):
            store.put("buyer", (number, 0))
        self.assertEqual(len(store), 99)
        store.take("buyer", (0, 0))
        store.put("order", (1, 1))
        self.assertEqual(len(store), 100)
        self.unchanged(store, TooMany, {"limit": 100}, store.put, "buyer", (100, 0))
        self.unchanged(store, TooMany, {"limit": 100}, store.mark, "buyer", (100, 0), "living")
        self.unchanged(store, KeyTaken, {"row": (1, 0)}, store.put, "buyer", (1, 5))
        self.unchanged(store, Missing, {"table": "buyer", "wanted": (0,)}, store.put, "order", (5, 0))
        self.assertEqual(store.back("buyer", (0, 0)), (("back", "buyer", (0, 0)),))
        self.assertEqual(len(store), 100)
        store.take("buyer", (0, 0))
        store.purge("buyer", (0, 0))
        store.put("buyer", (100, 0))
        self.assertEqual(len(store), 100)

    def test_take(self):
        store = day()
        self.unchanged(store, NotLiving, {"row": (3, 30)}, store.take, "buyer", (3, 30))
        self.unchanged(store, NotLiving, {"row": (8, 8)}, store.take, "buyer", (8, 8))
        self.unchanged(store, Referred, {"table": "order", "row": (5, 1)}, store.take, "buyer", (1, 10))
        self.unchanged(store, Referred, {"table": "item", "row": (6, 100)}, store.take, "order", (6, 2))
        self.assert_same(store.take("item", (6, 100)), (("take", "item", (6, 100)),))
        self.assertEqual(store["item", (6, 100)], "gone")
        self.assert_same(store.take("order", (6, 2), along=False), (("take", "order", (6, 2)),))
        store.put("item", (5, 200))
        store.take("item", (5, 200))
        self.assert_same(store.base["item", (5, 200)], (False, 2))

    def test_take_names_the_first_row_by_tables_and_then_rows(self):
        scheme = Scheme(
            Table("a", 1, key=(0,)), Table("z", 2, refers=(((1,), "a"),)),
            Table("b", 2, refers=(((0,), "a"), ((1,), "a"))))
        store = filled(
            scheme, ("put", "a", (1,)), ("put", "a", (2,)), ("put", "b", (2, 1)), ("put", "b", (1, 2)),
            ("put", "z", (7, 1)), ("put", "z", (5, 1)), ("put", "z", (1, 2)))
        self.unchanged(store, Referred, {"table": "z", "row": (5, 1)}, store.take, "a", (1,))
        store.mark("z", (5, 1), "gone")
        store.mark("z", (7, 1), "gone")
        self.unchanged(store, Referred, {"table": "b", "row": (1, 2)}, store.take, "a", (1,))
        store.take("b", (1, 2))
        self.unchanged(store, Referred, {"table": "b", "row": (2, 1)}, store.take, "a", (1,))
        store.take("b", (2, 1))
        self.assertEqual(store.take("a", (1,)), (("take", "a", (1,)),))

    def test_take_along(self):
        store = day()
        store.put("item", (5, 50))
        self.assert_same(store.take("buyer", (1, 10), along=True), (
            ("take", "item", (5, 50)), ("take", "item", (5, 100)), ("take", "order", (5, 1)), ("take", "buyer", (1, 10))))
        self.assertEqual([store.base.living(name) for name in SHOP.names], [((2, 20),), ((6, 2),), ((6, 100),)])
        self.unchanged(store, NotLiving, {"row": (1, 10)}, store.take, "buyer", (1, 10), along=True)
        self.assertEqual(store.take("item", (6, 100), along=True), (("take", "item", (6, 100)),))

    def test_take_along_of_a_row_that_is_not_living_takes_nothing(self):
        store = filled(LAX, ("put", "buyer", (1, 10)), ("put", "order", (5, 1)))
        self.unchanged(store, NotLiving, {"row": (1, 20)}, store.take, "buyer", (1, 20), along=True)

    def test_take_along_several_tables(self):
        scheme = Scheme(
            Table("a", 1, key=(0,)), Table("z", 2, key=(0,), refers=(((1,), "a"),)), Table("b", 2, refers=(((0,), "a"), ((1,), "z"))))
        store = filled(
            scheme, ("put", "a", (1,)), ("put", "a", (2,)), ("put", "z", (8, 1)), ("put", "z", (3, 1)), ("put", "z", (4, 2)),
            ("put", "b", (2, 3)), ("put", "b", (1, 4)), ("put", "b", (2, 4)), ("put", "b", (1, 3)))
        self.assertEqual(store.take("a", (1,), along=True), (
            ("take", "b", (1, 3)), ("take", "b", (1, 4)), ("take", "b", (2, 3)), ("take", "z", (3, 1)), ("take", "z", (8, 1)),
            ("take", "a", (1,))))
        self.assertEqual(store.base.living("b"), ((2, 4),))

    def test_along_is_a_boolean(self):
        store = day()
        for value in wrong_but(True, False):
            self.unchanged(store, InvalidOperation, {}, store.take, "item", (5, 100), along=value)
            self.unchanged(store, InvalidOperation, {}, store.take, "item", (9, 9), along=value)
            self.unchanged(store, InvalidRow, {}, store.take, "item", (9, True), along=value)

    def test_back(self):
        store = day()
        self.assert_same(store.back("buyer", (3, 30)), (("back", "buyer", (3, 30)),))
        self.unchanged(store, NotGone, {"row": (3, 30)}, store.back, "buyer", (3, 30))
        self.unchanged(store, NotGone, {"row": (9, 9)}, store.back, "buyer", (9, 9))
        self.unchanged(store, KeyTaken, {"row": (5, 1)}, store.back, "order", (5, 3))
        self.assertEqual(store.back("order", (7, 3)), (("back", "order", (7, 3)),))
        store.take("order", (7, 3))
        store.take("buyer", (3, 30))
        self.unchanged(store, Missing, {"table": "buyer", "wanted": (3,)}, store.back, "order", (7, 3))
        self.unchanged(store, KeyTaken, {"row": (5, 1)}, store.back, "order", (5, 3))

    def test_back_beside_other_copies(self):
        store = filled(LAX, *(("put", "buyer", (1, 10)), ("take", "buyer", (1, 10))) * 3)
        store.back("buyer", (1, 10))
        self.assert_same(store.base["buyer", (1, 10)], (True, 2))
        self.unchanged(store, KeyTaken, {"row": (1, 10)}, store.back, "buyer", (1, 10))
        plain = filled(PLAIN, ("put", "a", (1,)), ("take", "a", (1,)), ("put", "a", (1,)))
        self.unchanged(plain, KeyTaken, {"row": (1,)}, plain.back, "a", (1,))

    def test_purge(self):
        store = filled(LAX, *(("put", "buyer", (1, 10)), ("take", "buyer", (1, 10))) * 5)
        one = ("purge", "buyer", (1, 10))
        self.assert_same(store.purge("buyer", (1, 10)), (one,))
        self.assert_same(store.purge("buyer", (1, 10), many=0), ())
        self.unchanged(store, NotGone, {"row": (1, 10)}, store.purge, "buyer", (1, 10), many=5)
        self.unchanged(store, NotGone, {"row": (1, 10)}, store.purge, "buyer", (1, 10), many=10 ** 39)
        self.assert_same(store.purge("buyer", (1, 10), many=3), (one, one, one))
        self.assert_same(store.base["buyer", (1, 10)], (False, 1))
        self.assert_same(store.purge("buyer", (1, 10), many=1), (one,))
        self.unchanged(store, NotGone, {"row": (1, 10)}, store.purge, "buyer", (1, 10))
        self.assert_same(store.purge("buyer", (1, 10), many=0), ())
        self.assertEqual(store.base, Base.empty(LAX))
        for value in wrong_values():
            if type(value) is not int or value < 0:
                self.unchanged(store, InvalidNumber, {"number": value}, store.purge, "buyer", (1, 10), many=value)
                self.unchanged(store, InvalidRow, {}, store.purge, "buyer", (1,), many=value)

    def test_purge_leaves_a_living_row(self):
        store = filled(PLAIN, ("put", "a", (1,)), ("take", "a", (1,)), ("put", "a", (1,)))
        store.purge("a", (1,))
        self.assert_same(store.base["a", (1,)], (True, 0))
        self.unchanged(store, NotGone, {"row": (1,)}, store.purge, "a", (1,))

    def test_mark_living(self):
        store = Store(LAX)
        self.assert_same(store.mark("buyer", (1, 10), "living"), (("put", "buyer", (1, 10)),))
        self.assert_same(store.mark("buyer", (1, 10), "living"), ())
        store.take("buyer", (1, 10))
        self.assert_same(store.mark("buyer", (1, 10), "living"), (("back", "buyer", (1, 10)),))
        self.unchanged(store, KeyTaken, {"row": (1, 10)}, store.mark, "buyer", (1, 20), "living")
        self.unchanged(store, Missing, {"table": "buyer", "wanted": (4,)}, store.mark, "order", (1, 4), "living")
        store.take("buyer", (1, 10))
        store.put("buyer", (1, 20))
        self.unchanged(store, KeyTaken, {"row": (1, 20)}, store.mark, "buyer", (1, 10), "living")

    def test_mark_gone(self):
        store = filled(SHOP, ("put", "buyer", (1, 10)), ("put", "order", (5, 1)))
        self.unchanged(store, Referred, {"table": "order", "row": (5, 1)}, store.mark, "buyer", (1, 10), "gone")
        self.assert_same(store.mark("order", (5, 1), "gone"), (("take", "order", (5, 1)),))
        self.assert_same(store.mark("order", (5, 1), "gone"), ())
        self.assert_same(store.base["order", (5, 1)], (False, 1))
        self.unchanged(store, NotLiving, {"row": (6, 1)}, store.mark, "order", (6, 1), "gone")
        store.put("order", (5, 1))
        self.assert_same(store.mark("order", (5, 1), "gone"), (("take", "order", (5, 1)),))
        self.assert_same(store.base["order", (5, 1)], (False, 2))

    def test_mark_none(self):
        store = filled(LAX, ("put", "buyer", (1, 10)), ("take", "buyer", (1, 10)), ("put", "buyer", (1, 10)))
        self.assert_same(
            store.mark("buyer", (1, 10), None),
            (("take", "buyer", (1, 10)), ("purge", "buyer", (1, 10)), ("purge", "buyer", (1, 10))))
        self.assertEqual(store.base, Base.empty(LAX))
        self.assert_same(store.mark("buyer", (1, 10), None), ())
        store = filled(LAX, ("put", "buyer", (1, 10)), ("take", "buyer", (1, 10)))
        self.assert_same(store.mark("buyer", (1, 10), None), (("purge", "buyer", (1, 10)),))
        store = filled(LAX, ("put", "buyer", (1, 10)), ("take", "buyer", (1, 10)), ("put", "buyer", (1, 10)), ("put", "order", (5, 1)))
        self.unchanged(store, Referred, {"table": "order", "row": (5, 1)}, store.mark, "buyer", (1, 10), None)

    def test_mark_wants_a_word(self):
        store = day()
        for value in wrong_but(None, "living"):
            self.unchanged(store, InvalidOperation, {}, store.mark, "buyer", (1, 10), value)
            self.unchanged(store, InvalidOperation, {}, store.__setitem__, ("buyer", (1, 10)), value)
            self.unchanged(store, InvalidRow, {}, store.mark, "buyer", (1,), value)
        for value in ("Gone", "gone ", True, "none"):
            self.unchanged(store, InvalidOperation, {}, store.mark, "buyer", (1, 10), value)

    def test_brackets(self):
        store = Store(SHOP)
        self.assertIs(store["buyer", (1, 10)], None)
        store["buyer", (1, 10)] = "living"
        self.assert_same(store["buyer", (1, 10)], "living")
        store["buyer", (1, 10)] = "gone"
        self.assert_same(store["buyer", (1, 10)], "gone")
        store["buyer", (1, 10)] = None
        self.assertIs(store["buyer", (1, 10)], None)
        store = filled(PLAIN, ("put", "a", (1,)), ("take", "a", (1,)), ("put", "a", (1,)))
        self.assert_same(store["a", (1,)], "living")
        self.unchanged(store, NotLiving, {"row": (5,)}, store.__setitem__, ("a", (5,)), "gone")

    def test_purge_all(self):
        scheme = Scheme(Table("b", 1), Table("a", 1), Table("c", 1))
        gone = [("b", (2,)), ("b", (1,)), ("a", (7,)), ("a", (7,)), ("c", (3,))]
        def made():
            store = Store(scheme)
            for name, row in gone:
                store.put(name, row)
                store.take(name, row)
            store.put("a", (8,))
            return store
        in_b = (("purge", "b", (1,)), ("purge", "b", (2,)))
        in_a = (("purge", "a", (7,)),) * 2
        store = made()
        self.assert_same(store.purge_all(), in_b + in_a + (("purge", "c", (3,)),))
        self.assertEqual(store.base, Base(scheme, living={"a": ((8,),)}))
        self.assert_same(store.purge_all(), ())
        self.assert_same(made().purge_all("a", "b", "a"), in_b + in_a)
        store = made()
        self.assert_same(store.purge_all("a"), in_a)
        self.assertEqual(len(store), 4)
        for value in wrong_but("a"):
            self.unchanged(store, UnknownName, {"word": value}, store.purge_all, value)
            self.unchanged(store, UnknownName, {"word": value}, store.purge_all, "b", value, "nosuch")

    def test_tables_and_rows_of_all_methods(self):
        store = day()
        calls = [
            store.put, store.take, store.back, store.purge, lambda *at: store.mark(*at, "gone"), lambda *at: store[at],
            lambda *at: store.mark(*at, 1), lambda *at: store.__setitem__(at, "living"),
            lambda *at: store.__setitem__(at, 1), lambda *at: store.take(*at, along=True),
            lambda *at: store.take(*at, along=0), lambda *at: store.purge(*at, many=-1)]
        for call in calls:
            for value in wrong_but("buyer"):
                self.unchanged(store, UnknownName, {"word": value}, call, value, (1, 10))
                self.unchanged(store, UnknownName, {"word": value}, call, value, value)
            for value in wrong_but((1, 10), (0, 0), (1, 0)):
                self.unchanged(store, InvalidRow, {}, call, "buyer", value)
            for row in ((1,), (1, 2, 3), (True, 10), (1, TOO_GREAT)):
                self.unchanged(store, InvalidRow, {}, call, "buyer", row)

    def test_do(self):
        store = Store(SHOP)
        for command in (
                ("put", "buyer", (1, 10)), ("take", "buyer", (1, 10)), ("back", "buyer", (1, 10)),
                ("take", "buyer", (1, 10)), ("purge", "buyer", (1, 10))):
            self.assert_same(store.do(command), (command,))
        self.assertEqual(len(store), 0)
        for value in wrong_values():
            self.unchanged(store, InvalidCommand, {}, store.do, value)
        for word in WORDS:
            self.unchanged(store, UnknownName, {"word": "nosuch"}, store.do, (word, "nosuch", (1,)))
            self.unchanged(store, InvalidRow, {}, store.do, (word, "buyer", (1,)))
            for value in wrong_values():
                if not is_name(value):
                    self.unchanged(store, InvalidCommand, {}, store.do, (word, value, (1,)))
                if not is_row(value):
                    self.unchanged(store, InvalidCommand, {}, store.do, (word, "buyer", value))
                self.unchanged(store, InvalidCommand, {}, store.do, (value, "buyer", (1, 10)))
        for command in (("put", "buyer"), ("put", "buyer", (1, 10), 1), ["put", "buyer", (1, 10)], ("along", "buyer", (1, 10))):
            self.unchanged(store, InvalidCommand, {}, store.do, command)

    def test_tried(self):
        store = day()
        commands = (("take", "item", (5, 100)), ("take", "order", (5, 1)), ("take", "buyer", (2, 20)), ("put", "buyer", (8, 8)))
        base, index = store.tried(commands)
        self.assert_same(index, 2)
        self.assertEqual(base.living("item"), ((6, 100),))
        self.assertEqual(base.living("order"), ((6, 2),))
        self.assertEqual(base.living("buyer"), ((1, 10), (2, 20)))
        self.assertEqual(store.base, DAY)
        base, index = store.tried(commands[:2])
        self.assertIs(index, None)
        self.assertEqual(len(base.living("order")), 1)
        self.assert_same(store.tried(())[1], None)
        self.assertEqual(store.tried(())[0], DAY)
        self.assertIsInstance(store.tried(()), tuple)
        for refused in (("put", "nosuch", (1,)), ("put", "buyer", (1,)), ("back", "buyer", (1, 10)), ("put", "order", (9, 9))):
            self.assertEqual(store.tried((("put", "buyer", (8, 8)), refused, refused))[1], 1)
        self.assertEqual(store.base, DAY)

    def test_tried_at_the_greatest_size(self):
        store = Store(PLAIN)
        puts = tuple(("put", "a", (number,)) for number in range(101))
        base, index = store.tried(puts)
        self.assertEqual([base.size, index, len(store)], [100, 100, 0])
        self.assertEqual(store.tried(puts[:100])[1], None)

    def test_tried_wants_commands(self):
        store = day()
        for value in wrong_values():
            if not isinstance(value, tuple):
                self.unchanged(store, InvalidOperation, {}, store.tried, value)
            self.unchanged(store, InvalidCommand, {}, store.tried, (value,))
            self.unchanged(store, InvalidCommand, {}, store.tried, (("take", "buyer", (9, 9)), value))
        self.unchanged(store, InvalidCommand, {}, store.tried, ("put", "buyer", (1, 10)))
        self.unchanged(store, InvalidOperation, {}, store.tried, [("put", "buyer", (8, 8))])

    def test_length_and_pairs(self):
        store = day()
        self.assertEqual(len(store), 10)
        self.assertIs(("buyer", (3, 30)) in store, True)
        self.assertIs(("buyer", (1, 10)) in store, True)
        self.assertIs(("buyer", (1, 11)) in store, False)
        for value in wrong_but(("buyer", (1, 10))):
            self.assertIs(value in store, False)
        many = filled(PLAIN, *(("put", "a", (1,)), ("take", "a", (1,))) * 4)
        self.assertEqual(len(many), 4)

    def test_equality(self):
        self.assertTrue(day() == day())
        self.assertFalse(day() != day())
        other = day()
        other.take("item", (5, 100))
        self.assertFalse(day() == other)
        self.assertTrue(day() != other)
        self.assertFalse(Store(SHOP) == Store(LAX))
        self.assertFalse(day() == DAY)
        self.assert_unlike_all(day())

    def test_no_iteration_and_no_change_from_outside(self):
        store = day()
        self.assert_not_iterable(store)
        store.base.gone("buyer").clear()
        self.assertEqual(store.base, DAY)
        for name in ("base", "scheme"):
            with self.assertRaises(AttributeError):
                setattr(store, name, None)


class Modelled(Case):
    """The store beside a slow model, on all kinds of schemes."""

    def test_random_commands(self):
        dice = random.Random(7)
        for scheme in some_schemes():
            store, model = Store(scheme), Model(scheme)
            for _ in range(600):
                command = random_command(dice, scheme)
                refusal = model.refusal(command)
                if refusal is None:
                    self.assertEqual(store.do(command), (command,))
                    model.do(command)
                else:
                    raised = self.refused(refusal[0], store.do, command)
                    self.assertEqual(vars(raised), vars(refusal[0](*refusal[1])))
                self.assertTrue(model.agrees(store.base), command)
                self.assertEqual(len(store), model.size)

    def test_random_tries(self):
        dice = random.Random(13)
        ends = []
        for scheme in some_schemes():
            for _ in range(60):
                model, done = random_model(dice, scheme, 40)
                store = filled(scheme, *done)
                commands = [random_command(dice, scheme) for _ in range(dice.choice((1, 6, 20)))]
                # Often so many as are accepted.
                fair, twin = [], model.twin()
                for command in commands:
                    if twin.refusal(command) is None or dice.random() < 0.05:
                        fair.append(command)
                        if twin.refusal(command) is None:
                            twin.do(command)
                end = None
                for index, command in enumerate(fair):
                    if model.refusal(command) is not None:
                        end = index
                        break
                    model.do(command)
                before = store.base
                base, index = store.tried(tuple(fair))
                self.assertEqual(index, end)
                self.assertTrue(model.agrees(base))
                self.assertEqual(store.base, before)
                ends.append((len(fair), end))
        self.assertGreater(len([pair for pair in ends if pair[0] > 2 and pair[1] is None]), 20)
        self.assertGreater(len([pair for pair in ends if pair[1] is not None]), 20)

    def test_tries_with_keys_of_gone_rows(self):
        for scope, refused in (("all", 0), ("living", None)):
            scheme = Scheme(Table("a", 2, key=(0,), scope=scope))
            store = filled(scheme, ("put", "a", (1, 1)), ("take", "a", (1, 1)))
            self.assertEqual(store.tried((("put", "a", (1, 2)),))[1], refused)
            self.assertEqual(store.tried((("purge", "a", (1, 1)), ("put", "a", (1, 2))))[1], None)
            self.assertEqual(store.tried((("back", "a", (1, 1)), ("take", "a", (1, 1)), ("put", "a", (1, 2))))[1], 2 if scope == "all" else None)

    def test_random_takes_along(self):
        dice = random.Random(11)
        for scheme in some_schemes():
            for _ in range(60):
                model, done = random_model(dice, scheme, 120)
                table = dice.choice(list(scheme))
                row = dice.choice(sorted(model.living[table.name]) or [random_row(dice, table)])
                store = filled(scheme, *done)
                if row not in model.living[table.name]:
                    self.refused(NotLiving, store.take, table.name, row, along=True)
                    continue
                found, fresh = {(table.name, row)}, [(table.name, row)]
                while fresh:
                    fresh = [pair for one in fresh for pair in model.referring(*one) if pair not in found]
                    found.update(fresh)
                order = sorted(found, key=lambda pair: (-scheme.names.index(pair[0]), pair[1]))
                self.assertEqual(store.take(table.name, row, along=True), tuple(("take", *pair) for pair in order))
                for pair in order:
                    model.do(("take", *pair))
                self.assertTrue(model.agrees(store.base))


if __name__ == "__main__":
    unittest.main()
