"""Values that several tests share: the examples of the document, and wrong values of every kind."""

import unittest

from goneunseen.ask.places import Place
from goneunseen.ask.programs import Program
from goneunseen.ask.rules import Rule
from goneunseen.ask.spots import Spots
from goneunseen.ask.tallies import Tally
from goneunseen.base.bases import Base
from goneunseen.errors import InvalidRow, KeyTaken, TooMany
from goneunseen.scheme.schemes import Scheme
from goneunseen.scheme.tables import Table
from goneunseen.store.stores import Store

SHOP = Scheme(
    Table("buyer", 2, key=(0,), scope="all"),
    Table("order", 2, key=(0,), refers=(((1,), "buyer"),)),
    Table("item", 2, refers=(((0,), "order"),)))
DAY = Base(
    SHOP,
    living={"buyer": ((1, 10), (2, 20)), "order": ((5, 1), (6, 2)), "item": ((5, 100), (6, 100))},
    gone={"buyer": ((3, 30),), "order": ((5, 3), (7, 3)), "item": ((5, 200),)})
SALES = Program(
    SHOP,
    bought=Rule(("t", "p"), Place("order", "o", "b"), Place("buyer", "b", "t"), +Place("item", "o", "p")),
    parts=Rule(("p",), +Place("item", "o", "p"), Place("order", "o", "b")),
    towns=Rule(("t",), Place("bought", "t", "p")))

# The greatest integer of rows and terms, and the first one that is too great.
GREAT = 10 ** 20 - 1
TOO_GREAT = 10 ** 20


def nested(value, wrap):
    """The value nested ten deep."""
    for _ in range(9):
        value = wrap(value)
    return value


def wrong_values():
    """Values of every kind that [0.4] lists; a test leaves out those that are right for it."""
    return [
        None, True, False, 0, 1, 2, -1, 4, 5, 99, TOO_GREAT, -TOO_GREAT, 10 ** 39, -(10 ** 40) + 1,
        "", "a", "A", "buyer", "nosuch", "ninelongs", "a b", "a1", "a\n", "1", "living", "all", "x" * 10000, "~\n" * 5000,
        (), (1,), (True, 10), (1, False), (1, 10), (10, 1, 1), (1, 2, 3, 4, 5), (TOO_GREAT, 1), ("a",), (None,), ((),),
        ((0,), "buyer"), (((0,), "buyer"),), ("buyer", (1, 10)), ("put", "buyer", [1, 10]), (0, 0), (1, 0), (True,),
        ("put", "buyer", (True, 10)), ("Put", "buyer", (1, 10)), ("put", "ninelongs", (1, 10)), ("put", "buyer"),
        [], [1, 10], [(1, 10)], ["a"], [[[]]], {}, {"buyer": ()}, {"buyer": [(1, 10)]}, {1: 2}, {"a": True}, {None: None},
        {(): ()}, {True: True}, nested(0, lambda value: (value,)), nested((), lambda value: [value]),
        nested({}, lambda value: {"a": value}), nested((1, 10), lambda value: (value, [value])),
        SHOP, DAY, Table("a", 1), Store(SHOP), Place("a", "x"), InvalidRow("no"), KeyTaken((1, 10)), TooMany(1),
        Rule((), Place("a", "x")), Rule(("x",), Place("a", "x"), without=((Place("b", "x"),),)), SALES, Spots(),
        Spots(("bought", 0, 0)), Tally(), Tally({(1,): 1}), ("bought", 0, 0), ("bought", True, 0), ("bought", 0, -1),
        ("bought", 0), (("bought", 0, 0),), {(1,): 1}, {(1,): True}, {(True,): 1}, {"v": Rule((), Place("buyer", "b", "t"))},
        (Rule((), Place("buyer", "b", "t")),), (Place("buyer", "b", "t"),), (SHOP,), [DAY], {"buyer": Table("buyer", 2)}, ("put", "buyer", SHOP), (Place("a", "x"), Store(SHOP)),
    ]


def wrong_but(*kept):
    """The wrong values without those that are equal to one of these, and of the same class."""
    return [value for value in wrong_values() if not any(type(value) is type(one) and value == one for one in kept)]


class Case(unittest.TestCase):
    """A test with shorter ways to say what is refused."""

    def refused(self, error, call, *args, **more):
        """Asserts that the call raises exactly this error, with these kept values, and returns it."""
        with self.assertRaises(error) as caught:
            call(*args, **more)
        self.assertIs(type(caught.exception), error)
        return caught.exception

    def refused_with(self, error, kept, call, *args, **more):
        """Asserts that the call raises exactly this error, and that it keeps these values."""
        raised = self.refused(error, call, *args, **more)
        for name, value in kept.items():
            self.assert_same(getattr(raised, name), value)

    def assert_same(self, first, second):
        """Asserts that two values are equal and of the same kinds, so that True is not 1."""
        self.assertEqual(first, second)
        self.assertIs(type(first), type(second))
        if isinstance(first, (tuple, list)):
            for one, other in zip(first, second):
                self.assert_same(one, other)

    def assert_unlike_all(self, thing, equals=()):
        """Asserts that == accepts every value, and holds for none of the wrong ones but those that are told."""
        for value in wrong_values():
            expected = any(value is one for one in equals)
            if not expected:
                self.assertIs(thing == value, False, value)
                self.assertIs(thing != value, True, value)

    def assert_not_iterable(self, thing):
        """Asserts that the object cannot be iterated over."""
        with self.assertRaises(TypeError):
            iter(thing)
        with self.assertRaises(TypeError):
            list(thing)
        self.assertFalse(hasattr(thing, "listed"))
