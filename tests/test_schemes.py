"""[0.9]: schemes and their rules."""

import unittest

from goneunseen.errors import InvalidOperation, InvalidScheme, UnknownName
from goneunseen.scheme.schemes import Scheme
from goneunseen.scheme.tables import Table
from tests.values import SHOP, Case, wrong_but, wrong_values

A = Table("a", 2, key=(0,))
B = Table("b", 2, key=(0, 1), scope="all", refers=(((1,), "a"), ((0,), "a")))
C = Table("c", 4, refers=(((3, 1), "b"), ((0, 0), "b")))
ABC = Scheme(A, B, C)


class Schemes(Case):
    def both_refuse(self, *tables):
        self.refused(InvalidScheme, Scheme, *tables)
        self.refused(InvalidScheme, Scheme.of, tables)

    def test_properties(self):
        self.assert_same(ABC.names, ("a", "b", "c"))
        self.assertEqual(ABC.listed, (A, B, C))
        self.assertIsInstance(ABC.listed, tuple)
        self.assertEqual(list(ABC), [A, B, C])
        self.assertEqual(len(ABC), 3)
        self.assertEqual(len(Scheme(A)), 1)
        self.assertTrue(Scheme.of((A, B, C)) == ABC)
        self.assertEqual(Scheme(Table("z", 1), A).names, ("z", "a"))

    def test_tables_are_one_to_four(self):
        four = [Table(name, 1) for name in ("d", "c", "b", "a")]
        self.assertEqual(Scheme(*four).names, ("d", "c", "b", "a"))
        self.both_refuse()
        self.both_refuse(*four, Table("e", 1))
        self.both_refuse(A, Table("a", 1))
        self.both_refuse(A, A)

    def test_every_argument_is_a_table(self):
        for value in wrong_values():
            if not isinstance(value, Table):
                self.both_refuse(value)
                self.both_refuse(A, value)
                self.both_refuse(value, value)
            self.refused(InvalidScheme, Scheme.of, value)
        self.refused(InvalidScheme, Scheme.of, [A])
        self.refused(InvalidScheme, Scheme.of, SHOP)

    def test_targets_are_earlier_tables_with_keys_as_wide(self):
        self.both_refuse(B, A)
        self.both_refuse(B)
        self.both_refuse(Table("a", 1, key=(0,), refers=(((0,), "a"),)))
        self.both_refuse(Table("a", 1), Table("b", 1, refers=(((0,), "a"),)))
        self.both_refuse(Table("a", 2, key=(0, 1)), Table("b", 1, refers=(((0,), "a"),)))
        self.both_refuse(Table("a", 2, key=(0,)), Table("b", 2, refers=(((0, 1), "a"),)))
        self.both_refuse(A, Table("c", 1, refers=(((0,), "b"),)), Table("b", 1, key=(0,)))
        Scheme(Table("a", 4, key=(0, 1, 2, 3)), Table("b", 1, refers=(((0, 0, 0, 0), "a"),)))

    def test_references_are_at_most_four_in_all(self):
        two = (((0,), "a"), ((1,), "a"))
        Scheme(A, Table("b", 2, refers=two), Table("c", 2, refers=two))
        self.both_refuse(A, Table("b", 2, refers=two), Table("c", 2, refers=two), Table("d", 2, refers=two[:1]))
        Scheme(A, Table("b", 4, refers=tuple(((column,), "a") for column in range(4))))

    def test_tables_by_name(self):
        self.assertEqual([ABC["a"], ABC["b"], ABC["c"]], [A, B, C])
        for name in ABC.names:
            self.assertIs(name in ABC, True)
        for value in wrong_but("a"):
            self.assertIs(value in ABC, False)
            self.refused_with(UnknownName, {"word": value}, lambda at: ABC[at], value)
        self.refused_with(UnknownName, {"word": 0}, lambda at: ABC[at], 0)
        self.assertIs(A in ABC, False)

    def test_equality(self):
        self.assertTrue(ABC == Scheme(A, B, C))
        self.assertFalse(ABC != Scheme(A, B, C))
        for other in (Scheme(A, B), Scheme(A, B, Table("d", 4, refers=C.refers)), Scheme(A, B, Table("c", 4))):
            self.assertFalse(ABC == other)
            self.assertTrue(ABC != other)
        self.assertFalse(Scheme(A, Table("b", 1)) == Scheme(Table("b", 1), A))
        self.assert_unlike_all(ABC)
        self.assert_unlike_all(SHOP, [SHOP])

    def test_rules(self):
        self.assert_same(ABC.rules, (
            ("all", "b"), ("key", "a", (0,)), ("key", "b", (0, 1)),
            ("refers", "b", (0,), "a"), ("refers", "b", (1,), "a"),
            ("refers", "c", (0, 0), "b"), ("refers", "c", (3, 1), "b")))
        self.assert_same(SHOP.rules, (
            ("all", "buyer"), ("key", "buyer", (0,)), ("key", "order", (0,)),
            ("refers", "item", (0,), "order"), ("refers", "order", (1,), "buyer")))
        self.assertEqual(Scheme(Table("a", 1)).rules, ())


class Rules(Case):
    def test_without(self):
        self.assertEqual(ABC.without(("all", "b"))["b"], Table("b", 2, key=(0, 1), refers=B.refers))
        self.assertEqual(
            ABC.without(("refers", "b", (0,), "a"))["b"], Table("b", 2, key=(0, 1), scope="all", refers=(((1,), "a"),)))
        self.assertEqual(ABC.without(("refers", "c", (3, 1), "b"))["c"], Table("c", 4, refers=(((0, 0), "b"),)))
        bare = ABC.without(("refers", "c", (3, 1), "b")).without(("refers", "c", (0, 0), "b")).without(("all", "b"))
        self.assertEqual(bare.without(("key", "b", (0, 1))), Scheme(A, Table("b", 2, refers=B.refers), Table("c", 4)))
        self.assertEqual(ABC, Scheme(A, B, C))

    def test_each_loose_rule_can_be_left_out_and_put_back(self):
        for scheme in (ABC, SHOP):
            for rule in scheme.rules:
                if rule[0] != "key":
                    fewer = scheme.without(rule)
                    self.assertEqual(fewer.rules, tuple(one for one in scheme.rules if one != rule))
                    self.assertEqual(fewer.with_rule(rule), scheme)
                    self.refused(InvalidOperation, fewer.without, rule)
                self.refused(InvalidOperation, scheme.with_rule, rule)

    def test_without_refuses_keys_that_are_needed(self):
        for rule in (("key", "a", (0,)), ("key", "b", (0, 1))):
            self.refused(InvalidOperation, ABC.without, rule)
        lone = Scheme(Table("a", 1, key=(0,), scope="all"))
        self.refused(InvalidOperation, lone.without, ("key", "a", (0,)))
        target = Scheme(Table("a", 1, key=(0,)), Table("b", 1, refers=(((0,), "a"),)))
        self.refused(InvalidOperation, target.without, ("key", "a", (0,)))
        free = Scheme(Table("a", 1, key=(0,)), Table("b", 1))
        self.assertEqual(free.without(("key", "a", (0,))), Scheme(Table("a", 1), Table("b", 1)))

    def test_values_that_are_no_rule_of_the_scheme(self):
        wrong = [
            ("all", "c"), ("all",), ("all", "b", ()), ["all", "b"], ("All", "b"), ("key", "b"), ("all", "nosuch"),
            ("key", "a", (False,)), ("key", "b", (0, True)), ("key", "a", [0]), ("key", "a", 0), ("key", "c", (0, True)),
            ("refers", "b", (False,), "a"), ("refers", "b", (True,), "a"), ("refers", "b", [0], "a"),
            ("refers", "b", (0,), "c"), ("refers", "b", (0,)), ("refers", "b", (0,), "a", 0), ("refers", "b", 0, "a"),
            ("refers", "b", (0,), ["a"]), (["all"], "b"), ("all", ["b"]), ("refers", "nosuch", (0,), "a"),
            ("key", "nosuch", (0,)), ("key", "c", (3, 1)), ("key", "c", ()), ("key", "c", (4,)), ("key", "a", (1,)),
            ("refers", "a", (0,), "b"), ("refers", "a", (0,), "a"), ("refers", "b", (2,), "a"), ("refers", "b", (0, 1), "a"),
            ("Refers", "c", (2, 2), "b"), ("key", "c", (2, 2), "b"), ("all", "c", (2, 2), "b"), ("refers", "c", (2, 2), "b", 0),
            ("refers", "c", (0, False), "b"), ("refers", "c", (3, True), "b"), ("refers", "c", (2, True), "b"),
            ("refers", "c", (0,), "a"), ("refers", "c", (), "a"), ("refers", "c", (0, 1), "nosuch")]
        for value in wrong + wrong_values():
            self.refused(InvalidOperation, ABC.without, value)
            self.refused(InvalidOperation, ABC.with_rule, value)
        roomy = ABC.without(("refers", "c", (3, 1), "b"))
        for value in wrong:
            if value != ("refers", "c", (0,), "a"):
                self.refused(InvalidOperation, roomy.with_rule, value)
        self.assertEqual(roomy.with_rule(("refers", "c", (2, 2), "b"))["c"].refers, (((0, 0), "b"), ((2, 2), "b")))
        self.refused(InvalidOperation, ABC.without, ("all", "a"))
        self.assertEqual(ABC.with_rule(("all", "a"))["a"].scope, "all")

    def test_with_rule(self):
        plain = Scheme(Table("a", 2), Table("b", 2))
        keyed = plain.with_rule(("key", "a", (1,)))
        self.assertEqual(keyed, Scheme(Table("a", 2, key=(1,)), Table("b", 2)))
        self.refused(InvalidOperation, keyed.with_rule, ("key", "a", (0,)))
        self.refused(InvalidOperation, keyed.with_rule, ("key", "a", (0, 1)))
        self.refused(InvalidOperation, plain.with_rule, ("all", "a"))
        self.refused(InvalidOperation, plain.with_rule, ("refers", "b", (0,), "a"))
        self.assertEqual(keyed.with_rule(("all", "a")), Scheme(Table("a", 2, key=(1,), scope="all"), Table("b", 2)))
        refers = keyed.with_rule(("refers", "b", (0,), "a")).with_rule(("key", "b", (0,))).with_rule(("all", "b"))
        self.assertEqual(
            refers,
            Scheme(Table("a", 2, key=(1,)), Table("b", 2, key=(0,), scope="all", refers=(((0,), "a"),))))
        self.assertEqual(
            refers.with_rule(("refers", "b", (1,), "a"))["b"].refers, (((0,), "a"), ((1,), "a")))
        self.refused(InvalidOperation, refers.with_rule, ("refers", "b", (True,), "a"))

    def test_a_fifth_reference_is_refused(self):
        four = Scheme(A, Table("b", 4, refers=tuple(((column,), "a") for column in range(4))), Table("c", 1))
        self.refused(InvalidOperation, four.with_rule, ("refers", "c", (0,), "a"))
        self.refused(InvalidOperation, Scheme(A, four["b"]).with_rule, ("refers", "b", (0, 0), "a"))

    def test_within(self):
        lax = ABC.without(("all", "b")).without(("refers", "c", (0, 0), "b"))
        self.assertIs(lax.within(ABC), True)
        self.assertIs(ABC.within(lax), False)
        self.assertIs(ABC.within(Scheme(A, B, C)), True)
        self.assertIs(Scheme(A).within(ABC), False)
        self.assertIs(Scheme(Table("a", 1)).within(Scheme(Table("a", 2))), False)
        self.assertIs(Scheme(Table("a", 2)).within(Scheme(Table("b", 2))), False)
        self.assertIs(Scheme(Table("a", 1), Table("b", 1)).within(Scheme(Table("b", 1), Table("a", 1))), False)
        for value in wrong_but(SHOP):
            self.refused(InvalidScheme, ABC.within, value)


if __name__ == "__main__":
    unittest.main()
