"""Stage 12: matches of one answer."""

import random
import unittest

from goneunseen.ask.answers import matches
from goneunseen.ask.places import Place
from goneunseen.ask.rules import Rule
from goneunseen.base.bases import Base
from goneunseen.errors import InvalidBase, InvalidOperation, InvalidRule, InvalidScheme
from goneunseen.frozen.folds import match_of
from goneunseen.scheme.schemes import Scheme
from goneunseen.scheme.tables import Table
from tests.oracle import some_schemes
from tests.values import DAY, GREAT, SALES, SHOP, TOO_GREAT, Case, wrong_but, wrong_values
from tests.views import random_base, random_rule

LAX = SHOP.without(("all", "buyer"))
PARTS = SALES["parts"][0]
PLAIN = Scheme(Table("t", 2), Table("s", 1))


def head_of(rule, match):
    numbers = {term: part for place, pair in zip(rule, match) for term, part in zip(place.terms, pair[0])}
    return tuple(numbers.get(term, term) for term in rule.head)


class MatchesOfOneAnswer(Case):
    def check(self, scheme, rule, base, answers=()):
        """Compares with all matches, for each of their heads and for other answers."""
        for living in (False, True):
            found = {}
            for match in matches(scheme, rule, base, living=living):
                found.setdefault(head_of(rule, match), []).append(match)
            for answer in {*found, *answers}:
                match = match_of(scheme, rule, base, answer, living=living)
                if answer in found:
                    self.assertIn(match, found[answer])
                    self.assert_same(match, found[answer][found[answer].index(match)])
                else:
                    self.assertIsNone(match)

    def test_the_sales(self):
        self.check(SHOP, PARTS, DAY, [(100,), (200,), (5,), (10 ** 30,)])
        self.check(SHOP, SALES["bought"][0], DAY, [(10, 100), (30, 100), (30, 200), (100, 10)])
        self.assertEqual(match_of(SHOP, PARTS, DAY, (100,)), match_of(SHOP, PARTS, DAY, (100,), living=False))

    def test_heads(self):
        base = Base(PLAIN, living={"t": ((1, 2), (3, 3), (GREAT, -GREAT))}, gone={"t": ((4, 5),)})
        t = Place("t", "x", "y")
        for head, answer, expected in (
                ((), (), True), (("x",), (1,), True), (("x", "x"), (1, 1), True), (("x", "x"), (1, 3), False), (("x", "y"), (3, 3), True),
                (("x", "y"), (1, 3), False), ((7, "x"), (7, 1), True), ((7, "x"), (8, 1), False), (("y", "x", 7, "y"), (2, 1, 7, 2), True),
                (("x",), (4,), True), ((7,), (7,), True), ((7,), (6,), False), (("x", "y"), (GREAT, -GREAT), True),
                (("x",), (TOO_GREAT,), False), ((7,), (10 ** 40,), False), (("x", "x"), (10 ** 40, 10 ** 40), False)):
            match = match_of(PLAIN, Rule(head, t), base, answer)
            self.assertIs(match is not None, expected, (head, answer))
            if expected:
                self.assertEqual(head_of(Rule(head, t), match), answer)
        self.assertIsNone(match_of(PLAIN, Rule(("x",), t), base, (4,), living=True))
        self.assertIsNone(match_of(PLAIN, Rule(("x",), +t), base, (4,)))
        self.assertEqual(match_of(PLAIN, Rule(("x",), t), base, (4,)), (((4, 5), False),))

    def test_products_above_50000(self):
        rows = tuple((number,) for number in range(100))
        base = Base(PLAIN, living={"s": rows})
        apart = Rule(("a", "f"), *[Place("s", name) for name in "abcdef"])
        self.assertEqual(match_of(PLAIN, apart, base, (3, 99))[0], ((3,), True))
        self.assertEqual(match_of(PLAIN, apart, base, (3, 99), living=True)[5], ((99,), True))
        self.assertIsNone(match_of(PLAIN, apart, base, (3, 100)))
        # Five places are matched apart from the one that has no row.
        for places in ([Place("s", name) for name in "abcde"] + [Place("t", "x", "y")], [Place("t", "x", "y")] + [Place("s", name) for name in "abcde"]):
            self.assertIsNone(match_of(PLAIN, Rule((), *places), base, ()))
            self.assertIsNone(match_of(PLAIN, Rule((), *places[::-1]), base, ()))

    def test_places_without_common_variables_are_matched_apart(self):
        # No pair is turned round, which shows only in the search; each of the other places has many rows.
        singles = tuple((number,) for number in range(30))
        base = Base(PLAIN, living={"s": singles, "t": tuple((number, number + 1) for number in range(60))})
        turned = [Place("t", "x", "y"), Place("t", "y", "x")]
        others = [Place("s", name) for name in "abcd"]
        for places in ([*others, *turned], [*turned, *others], [turned[0], *others, turned[1]]):
            self.assertIsNone(match_of(PLAIN, Rule((), *places), base, ()))
            self.assertIsNone(match_of(PLAIN, Rule(("a",), *places), base, (3,), living=True))

    def test_places_that_hang_together(self):
        pairs = tuple((0, number) for number in range(90))
        base = Base(PLAIN, living={"t": pairs, "s": ((-1,),)})
        star = [Place("t", "x", name) for name in "abcde"]
        self.assertIsNone(match_of(PLAIN, Rule((), *star, Place("s", "e")), base, ()))
        self.assertIsNone(match_of(PLAIN, Rule((), Place("s", "e"), *star), base, ()))
        self.assertIsNotNone(match_of(PLAIN, Rule(("a", "e"), *star), base, (3, 89)))
        # A path of pairs, each of the next layer: there is none back.
        layers = tuple((10 * layer + first, 10 * layer + 10 + second) for layer in range(5) for first in range(4) for second in range(5))
        base = Base(PLAIN, living={"t": layers})
        path = [Place("t", first, second) for first, second in ("ab", "bc", "cd", "de", "ef")]
        self.assertIsNone(match_of(PLAIN, Rule((), *path, Place("t", "f", "a")), base, ()))
        self.assertIsNone(match_of(PLAIN, Rule(("a", "f"), *path), base, (0, 4)))
        self.assertIsNone(match_of(PLAIN, Rule(("a",), *path, Place("t", "f", "g")), base, (0,)))
        match = match_of(PLAIN, Rule(("a", "f"), *path), base, (3, 50))
        self.assertEqual(head_of(Rule(("a", "f"), *path), match), (3, 50))

    def test_random_rules(self):
        dice = random.Random(41)
        for scheme in some_schemes():
            sources = [(table.name, table.width, True) for table in scheme]
            for _ in range(80):
                rule = random_rule(dice, sources, dice.choice((2, 3, 5)))
                others = [tuple(dice.randint(0, 3) for _ in rule.head) for _ in range(3)]
                self.check(scheme, rule, random_base(dice, scheme), others)

    def test_wrong_arguments(self):
        for value in wrong_values():
            if not isinstance(value, Scheme):
                self.refused(InvalidScheme, match_of, value, PARTS, DAY, (100,))
                self.refused(InvalidScheme, match_of, value, value, value, value, living=value)
            self.refused(InvalidRule, match_of, SHOP, value, DAY, (100,))
            self.refused(InvalidRule, match_of, SHOP, value, value, value, living=value)
            if not (isinstance(value, tuple) and len(value) == 1 and type(value[0]) is int):
                self.refused(InvalidOperation, match_of, SHOP, PARTS, DAY, value)
            if type(value) is not int:
                self.refused(InvalidOperation, match_of, SHOP, PARTS, DAY, (value,))
            if value is not True and value is not False:
                self.refused(InvalidOperation, match_of, SHOP, PARTS, DAY, (100,), living=value)
        for value in wrong_but(DAY):
            self.refused(InvalidBase, match_of, SHOP, PARTS, value, (100,))
            self.refused(InvalidBase, match_of, SHOP, PARTS, value, value, living=value)
        for answer in ((), (100, 100), [100], (True,), 100, None, ("100",), ((100,),)):
            self.refused(InvalidOperation, match_of, SHOP, PARTS, DAY, answer)
        self.refused(InvalidBase, match_of, LAX, PARTS, DAY, (100,))
        self.refused(InvalidRule, match_of, PLAIN, PARTS, DAY, (100,))
        self.refused(InvalidRule, match_of, SHOP, SALES["towns"][0], DAY, (100,))
        self.refused(InvalidRule, match_of, SHOP, Rule(("o", "p"), Place("item", "o", "p"), without=((Place("item", "p", "o"),),)), DAY, (1, 1))


if __name__ == "__main__":
    unittest.main()
