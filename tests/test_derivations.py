"""[11.1] to [11.3]: derivations."""

import random
import unittest

from goneunseen.ask.answers import answers, numbers
from goneunseen.ask.places import Place
from goneunseen.ask.programs import Program, unfolded
from goneunseen.ask.rules import Rule
from goneunseen.ask.spots import Spots
from goneunseen.errors import (
    InvalidMode, InvalidNumber, InvalidOperation, InvalidPaper, InvalidProgram, InvalidRule, InvalidScheme, UnknownName)
from goneunseen.frozen.derivations import derivation, is_derivation, rows_behind
from goneunseen.frozen.frozen import frozen
from goneunseen.scheme.schemes import Scheme
from goneunseen.scheme.tables import Table
from tests.freezing import chains, clashing_rule, is_right, rows_after
from tests.oracle import some_schemes
from tests.values import SALES, SHOP, Case, wrong_values
from tests.views import random_program, random_rule

PARTS, BOUGHT = SALES["parts"][0], SALES["bought"][0]
MODES = ("answers", "numbers")
PLAIN = Scheme(Table("t", 2), Table("s", 1))
# A key of each scope, and a table without one.
KEYS = Scheme(Table("all", 2, key=(0,), scope="all"), Table("key", 2, key=(0,)), Table("none", 2))
CHAIN = chains()[0]


def pair(name, first, second, *, both=True):
    """A rule with two places of a table, of which the first is filtered, the second if both are."""
    return Rule((), +Place(name, *first), Place(name, *second, filtered=both))


class Steps(Case):
    def check(self, scheme, rule, steps, living=False):
        """Compares with the words of the document; returns what is told."""
        rows = rows_after(scheme, rule, steps, living)
        if rows is None:
            self.refused(InvalidPaper, rows_behind, scheme, rule, steps, living=living)
            return "impossible"
        told = rows_behind(scheme, rule, steps, living=living)
        if rows.is_empty():
            self.assertIsNone(told)
        else:
            self.assert_same(told, rows.all_told())
        return told

    def test_the_rows_of_the_places(self):
        self.assertEqual(self.check(SHOP, BOUGHT, ()), (
            ("order", ("o", "b"), False), ("buyer", ("b", "t"), False), ("item", ("o", "p"), True)))
        self.assertEqual([row[2] for row in self.check(SHOP, BOUGHT, (), True)], [True, True, True])
        self.assertEqual(self.check(PLAIN, Rule((), Place("t", 5, 5), Place("t", 5, 5)), ()), (("t", (5, 5), False),) * 2)

    def test_same_with_a_key(self):
        step = (("same", 0, 1),)
        told = self.check(KEYS, pair("key", ("x", "y"), ("x", "z")), step)
        self.assertEqual(told, (("key", ("x", "y"), True),) * 2)
        self.assertEqual(self.check(KEYS, pair("key", ("x", "y"), ("x", "z"), both=False), step), "impossible")
        self.assertEqual(self.check(KEYS, pair("key", ("x", "y"), ("x", "y"), both=False), step), "impossible")
        self.assertEqual(self.check(KEYS, pair("key", ("x", "y"), ("w", "y")), step), "impossible")
        self.assertEqual(self.check(KEYS, pair("all", ("x", "y"), ("x", "z"), both=False), step), (("all", ("x", "y"), True),) * 2)
        self.assertEqual(
            self.check(KEYS, Rule((), Place("all", "x", "y"), Place("all", "x", "z")), step), (("all", ("x", "y"), False),) * 2)
        self.assertEqual(self.check(KEYS, Rule((), Place("all", "x", "y"), Place("all", "w", "y")), step), "impossible")
        self.assertEqual(self.check(KEYS, Rule((), Place("key", "x", "y"), Place("key", "x", "z")), step), "impossible")

    def test_same_without_a_key(self):
        step = (("same", 0, 1),)
        self.assertEqual(self.check(KEYS, pair("none", ("x", "y"), ("x", "y")), step), (("none", ("x", "y"), True),) * 2)
        self.assertEqual(self.check(KEYS, pair("none", ("x", "y"), ("x", "z")), step), "impossible")
        self.assertEqual(self.check(KEYS, pair("none", ("x", "y"), ("x", "y"), both=False), step), "impossible")
        self.assertEqual(self.check(KEYS, Rule((), Place("none", "x", "y"), Place("none", "x", "y")), step), "impossible")

    def test_terms_that_have_been_equated_are_equal(self):
        rule = Rule((), +Place("key", "x", "y"), +Place("key", "x", "z"), +Place("none", 1, "y"), +Place("none", 1, "z"))
        self.assertEqual(self.check(KEYS, rule, (("same", 2, 3),)), "impossible")
        self.assertEqual(self.check(KEYS, rule, (("same", 0, 1), ("same", 2, 3)))[3], ("none", (1, "y"), True))
        rule = Rule((), +Place("key", "x", "y"), +Place("key", "x", 5), +Place("all", "y", "b"), Place("all", 5, "a"))
        self.assertEqual(self.check(KEYS, rule, (("same", 2, 3),)), "impossible")
        self.assertEqual(self.check(KEYS, rule, (("same", 0, 1), ("same", 2, 3)))[2:], (("all", (5, "a"), True),) * 2)

    def test_rows_that_become_living(self):
        rule = Rule((), Place("all", "x", "y"), Place("all", "x", "z"), +Place("all", "x", "w"), Place("all", "v", "v"))
        self.assertEqual([row[2] for row in self.check(KEYS, rule, (("same", 0, 1),))], [False, False, True, False])
        self.assertEqual([row[2] for row in self.check(KEYS, rule, (("same", 0, 1), ("same", 1, 2)))], [True, True, True, False])
        self.assertEqual([row[1] for row in self.check(KEYS, rule, (("same", 1, 2), ("same", 0, 2)))[:3]], [("x", "w")] * 3)
        rule = Rule((), Place("buyer", "b", "t"), Place("order", "o", "b"), +Place("order", "o", "c"))
        self.assertEqual(self.check(SHOP, rule, (("refers", 1, 0),)), "impossible")
        steps = (("refers", 2, 0),)
        self.assertEqual(self.check(SHOP, rule, steps)[3:], (("buyer", ("c", "1"), True),))
        self.assertEqual(self.check(SHOP, rule, steps + (("same", 1, 2),)), "impossible")
        # Behind a merge the row with another number refers, too.
        scheme = Scheme(Table("p", 1, key=(0,)), Table("q", 2, key=(0,), scope="all", refers=(((1,), "p"),)))
        rule = Rule((), Place("q", "x", "y"), +Place("q", "x", "z"))
        self.assertEqual(self.check(scheme, rule, (("refers", 0, 0),)), "impossible")
        self.assertEqual(self.check(scheme, rule, (("same", 0, 1), ("refers", 0, 0)))[2], ("p", ("y",), True))

    def test_refers(self):
        told = self.check(CHAIN, Rule((), +Place("d", "x", "y")), (("refers", 0, 0), ("refers", 0, 1), ("refers", 1, 0), ("refers", 2, 0)))
        self.assertEqual(told, (
            ("d", ("x", "y"), True), ("b", ("x", "1"), True), ("c", ("y", "2"), True), ("a", ("1", "3"), True), ("b", ("2", "4"), True)))
        # It can be added although there is such a row already.
        told = self.check(SHOP, PARTS, (("refers", 0, 0), ("refers", 0, 0), ("same", 2, 3), ("refers", 3, 0)))
        self.assertEqual(told[2:], (("order", ("o", "1"), True),) * 2 + (("buyer", ("1", "3"), True),))
        for step in (("refers", 0, 1), ("refers", 0, -1), ("refers", 1, 0), ("refers", 2, 0), ("refers", -1, 0), ("refers", 10 ** 30, 0)):
            self.assertEqual(self.check(SHOP, PARTS, (step,)), "impossible")

    def test_new_terms_from_left_to_right(self):
        scheme = Scheme(Table("p", 4, key=(1, 3)), Table("q", 2, refers=(((1, 0), "p"), ((0, 0), "p"))))
        told = self.check(scheme, Rule((), +Place("q", "x", "y")), (("refers", 0, 1), ("refers", 0, 0)))
        self.assertEqual(told[1:], (("p", ("1", "y", "2", "x"), True), ("p", ("3", "x", "4", "x"), True)))

    def test_how_terms_are_told(self):
        def told(*rows):
            # All rows of one key become one, one after another.
            steps = tuple(("same", 0, number) for number in range(1, len(rows)))
            return self.check(KEYS, Rule((), *[+Place("key", 0, term) for term in rows]), steps)[0][1][1]
        self.assertEqual(told("b", "c", "a"), "a")
        self.assertEqual(told("b", "ab", "a", "c"), "a")
        self.assertEqual(told("z", 7, "a"), 7)
        self.assertEqual(told(-3, "a", "b"), -3)
        self.assertEqual(told("aa", "b"), "aa")
        # New terms come last, the first one of them first, by number: "2" ahead of "10".
        scheme = Scheme(Table("p", 2, key=(0,)), Table("q", 1, refers=(((0,), "p"),)))
        rule = Rule((), +Place("q", "x"), Place("p", "x", "y"))
        steps = tuple(("refers", 0, 0) for _ in range(12))
        self.assertEqual(self.check(scheme, rule, steps)[-1], ("p", ("x", "12"), True))
        self.assertEqual(self.check(scheme, rule, steps + (("same", 3, 11),))[3], ("p", ("x", "2"), True))
        self.assertEqual(self.check(scheme, rule, steps + (("same", 10, 11), ("same", 3, 10)))[11], ("p", ("x", "2"), True))
        living = self.check(scheme, rule, steps + (("same", 1, 13), ("same", 2, 13)), True)
        self.assertEqual([living[1], living[2], living[13], living[3]], [("p", ("x", "y"), True)] * 3 + [("p", ("x", "2"), True)])

    def test_integers_that_are_equated(self):
        rule = Rule((), +Place("key", 0, 1), +Place("key", 0, 2), +Place("none", 1, 5), +Place("none", 2, 5), Place("all", 3, 4))
        self.assertIsNone(self.check(KEYS, rule, (("same", 0, 1),)))
        # Steps behind that are judged alike.
        self.assertIsNone(self.check(KEYS, rule, (("same", 0, 1), ("same", 2, 3))))
        self.assertEqual(self.check(KEYS, rule, (("same", 2, 3),)), "impossible")
        for step in (("same", 0, 4), ("same", 1, 2), ("same", 3, 2), ("refers", 0, 0)):
            self.assertEqual(self.check(KEYS, rule, (("same", 0, 1), step)), "impossible")
        scheme = Scheme(Table("p", 1, key=(0,)), Table("q", 2, key=(0,), refers=(((1,), "p"),)))
        rule = Rule((), +Place("q", 0, 1), +Place("q", 0, 2), +Place("p", 1))
        self.assertIsNone(self.check(scheme, rule, (("same", 0, 1), ("refers", 1, 0), ("same", 2, 3))))
        self.assertEqual(self.check(scheme, rule, (("refers", 1, 0), ("same", 2, 3))), "impossible")

    def test_indices(self):
        rule = Rule((), +Place("none", "x", "y"), +Place("none", "x", "y"), +Place("key", "x", "y"))
        for step in (
                ("same", 1, 0), ("same", 0, 0), ("same", -1, 1), ("same", 0, 3), ("same", 0, 2), ("same", -2, -1), ("same", 3, 4),
                ("same", 0, 10 ** 30)):
            self.assertEqual(self.check(KEYS, rule, (step,)), "impossible")
        rule = Rule((), +Place("order", "o", "b"), +Place("order", "o", "b"), +Place("order", "o", "b"))
        for step in (("same", -1, 0), ("same", -1, 1), ("same", -2, 2), ("same", -3, -2), ("refers", -1, 0), ("refers", -3, 0), ("refers", 0, -1)):
            self.assertEqual(self.check(SHOP, rule, (step,)), "impossible")
        rule = Rule((), +Place("none", "x", "y"), +Place("none", "x", "y"), +Place("key", "x", "y"))
        # What is one row already can be made one again.
        self.assertEqual(len(self.check(KEYS, rule, (("same", 0, 1),) * 3)), 3)

    def test_at_most_200_steps(self):
        rule = Rule((), +Place("none", "x", "y"), +Place("none", "x", "y"))
        for many in (200, 199):
            self.assertEqual(len(self.check(KEYS, rule, (("same", 0, 1),) * many)), 2)
        self.refused(InvalidPaper, rows_behind, KEYS, rule, (("same", 0, 1),) * 201)
        self.assertEqual(len(self.check(SHOP, PARTS, (("refers", 0, 0),) * 200)), 202)

    def test_random_steps(self):
        dice = random.Random(31)
        possible = empty = 0
        for scheme in [*some_schemes(), *chains()]:
            sources = [(table.name, table.width, True) for table in scheme]
            for _ in range(120):
                rule = clashing_rule(scheme, dice) if dice.random() < 0.6 else random_rule(dice, sources, 4, names="xy")
                living, steps = dice.random() < 0.3, ()
                for _ in range(dice.randint(1, 8)):
                    rows = rows_after(scheme, rule, steps, living)
                    many = len(rows.rows)
                    ways = [("same", first, second) for first in range(many) for second in range(many)]
                    ways += [("refers", first, index) for first in range(many) for index in range(3)]
                    dice.shuffle(ways)
                    good = sorted([step for step in ways if rows.can_do(step)], key=lambda step: step[0] + str(dice.random()))
                    if dice.random() < 0.7:
                        good = good[::-1]
                    for step in ways[:3]:
                        self.check(scheme, rule, steps + (step,), living)
                    if not good:
                        break
                    steps = steps + (good[0],)
                    told = self.check(scheme, rule, steps, living)
                    possible += 1
                    empty += told is None
        self.assertGreater(possible, 1000)
        self.assertGreater(empty, 50)

    def test_wrong_arguments(self):
        steps = (("refers", 0, 0),)
        bad = (("refers", 1, 0),)
        for value in wrong_values():
            if not isinstance(value, Scheme):
                self.refused(InvalidScheme, rows_behind, value, PARTS, steps)
                self.refused(InvalidScheme, rows_behind, value, value, value, living=value)
            self.refused(InvalidRule, rows_behind, SHOP, value, steps)
            self.refused(InvalidRule, rows_behind, SHOP, value, value, living=value)
            if value != ():
                self.refused(InvalidPaper, rows_behind, SHOP, PARTS, value)
                self.refused(InvalidPaper, rows_behind, SHOP, PARTS, value, living=value)
            self.refused(InvalidPaper, rows_behind, SHOP, PARTS, (value,))
            # The form of all steps is looked at before anything else.
            self.refused(InvalidPaper, rows_behind, SHOP, PARTS, bad + (value,), living=5)
            if type(value) is not int:
                for word in ("same", "refers"):
                    self.refused(InvalidPaper, rows_behind, SHOP, PARTS, ((word, value, 0),), living=5)
                    self.refused(InvalidPaper, rows_behind, SHOP, PARTS, ((word, 0, value),), living=5)
            if value is not True and value is not False:
                self.refused(InvalidOperation, rows_behind, SHOP, PARTS, steps, living=value)
                self.refused(InvalidOperation, rows_behind, SHOP, PARTS, bad, living=value)
        for wrong in (
                [("refers", 0, 0)], (["refers", 0, 0],), (("refers", 0),), (("refers", 0, 0, 0),), (("Refers", 0, 0),), (("refers", True, 0),),
                (("refers", 0, False),), (("same", False, True),), ("refers", 0, 0)):
            self.refused(InvalidPaper, rows_behind, SHOP, PARTS, wrong)
        self.refused(InvalidRule, rows_behind, SHOP, Rule(("o", "p"), Place("item", "o", "p"), without=((Place("item", "p", "o"),),)), ())
        self.refused(InvalidRule, rows_behind, PLAIN, PARTS, ())
        self.refused(InvalidRule, rows_behind, SHOP, SALES["towns"][0], ())


class Derivations(Case):
    def check(self, program, name):
        """Each unfolded rule has a derivation exactly if its frozen base does not mislead the view, as [13.1] says."""
        rules, found = unfolded(program, name), {}
        avoid = tuple(number for view in program.names for rule in program[view] for number in rule.integers)
        for mode in MODES:
            for index, rule in enumerate(rules):
                value = derivation(program, name, index, mode=mode)
                at = frozen(program.scheme, rule, avoid=avoid)
                if at is None:
                    is_misled = False
                elif mode == "answers":
                    is_misled = at[2] not in answers(program, name, at[0], living=True)
                else:
                    is_misled = numbers(program, name, at[0])[at[2]] > numbers(program, name, at[0], living=True)[at[2]]
                self.assertEqual(value is None, is_misled)
                self.assertIs(is_derivation(program, name, index, value, mode=mode), value is not None)
                if value is not None:
                    self.assertTrue(is_right(program.scheme, rules, index, value, mode))
                    self.assertIs(is_derivation(program, name, index, value), True)
                found[mode, index] = value
        self.assertEqual(derivation(program, name, 0) if rules else None, found.get(("answers", 0)))
        return found

    def test_the_sales(self):
        filtered = SALES + Spots(("bought", 0, 0))
        for program, expected in ((SALES, [False, True, False]), (filtered, [True, True, True])):
            for name, is_derived in zip(program.names, expected):
                found = self.check(program, name)
                self.assertIs(found["answers", 0] is not None, is_derived)
                self.assertIs(found["numbers", 0] is not None, is_derived and name != "parts")

    def test_empty_rules(self):
        rule = Rule(("p",), +Place("order", "o", 1), +Place("order", "o", 2), Place("item", "o", "p"))
        program = Program(SHOP, v=rule)
        for mode in MODES:
            self.assertEqual(self.check(program, "v")[mode, 0], ((("same", 0, 1),), ("empty",)))
            self.assertIs(is_derivation(program, "v", 0, ((("same", 0, 1),), ("empty",)), mode=mode), True)
            # No other ending is right behind that.
            for ending in (("living",), ("fold", 0, (0, 1, 2))):
                self.assertIs(is_derivation(program, "v", 0, ((("same", 0, 1),), ending), mode=mode), False)
            self.assertIs(is_derivation(program, "v", 0, ((), ("empty",)), mode=mode), False)
        living = Program(SHOP, v=Rule((), +Place("order", "o", 1), +Place("order", "o", 2)))
        self.assertIs(is_derivation(living, "v", 0, ((("same", 0, 1),), ("living",))), False)
        self.assertIs(is_derivation(living, "v", 0, ((), ("living",))), True)
        self.assertIs(is_derivation(living, "v", 0, ((), ("fold", 0, (0, 1)))), True)

    def test_living_places(self):
        program = Program(PLAIN, v=Rule((), +Place("t", "x", "y"), +Place("s", "x")), w=Rule((), +Place("t", "x", "y"), Place("s", "x")))
        for mode in MODES:
            self.assertIs(is_derivation(program, "v", 0, ((), ("living",)), mode=mode), True)
            self.assertIs(is_derivation(program, "w", 0, ((), ("living",)), mode=mode), False)
        self.check(program, "v")
        self.check(program, "w")

    def test_folds(self):
        program = Program(PLAIN, v=Rule(("x",), +Place("t", "x", "y"), Place("t", "x", "z"), Place("t", "w", "y")))
        self.assertIs(is_derivation(program, "v", 0, ((), ("fold", 0, (0, 0, 0)))), True)
        self.assertIs(is_derivation(program, "v", 0, ((), ("fold", 0, (0, 0, 0))), mode="numbers"), False)
        for ending in (
                ("fold", 0, (0, 1, 0)), ("fold", 0, (0, 0)), ("fold", 0, (0, 0, 0, 0)), ("fold", 1, (0, 0, 0)), ("fold", -1, (0, 0, 0)),
                ("fold", 0, (0, 0, 3)), ("fold", 0, (0, 0, -3)), ("fold", False, (0, 0, 0)), ("fold", 0, (False, 0, 0)), ("fold", 0, [0, 0, 0]),
                ["fold", 0, (0, 0, 0)], ("fold", 0, (0, 0, 0), 0), ("fold", 0), ("Fold", 0, (0, 0, 0)), ("fold", 0, (0, 0, None)), (), "fold",
                ("living", 0), ("empty", 0), ("there", (0, 0, 0)), None, ("fold", None, (0, 0, 0)), ("fold", 0, None), ("fold", 0, 0)):
            self.assertIs(is_derivation(program, "v", 0, ((), ending)), False, ending)
        self.assertEqual(derivation(program, "v", 0), ((), ("fold", 0, (0, 0, 0))))
        self.assertIsNone(derivation(program, "v", 0, mode="numbers"))

    def test_folds_of_other_rules_of_the_view(self):
        for last in (Rule(("p", 1), +Place("t", "p", 1)), Rule(("p", "p"), +Place("t", "p", "p"))):
            program = Program(PLAIN, v=(
                Rule(("x", "y"), +Place("t", "x", "y"), Place("s", "y")), Rule(("p", "q"), +Place("t", "p", "q")), last))
            for index, other, expected in (
                    (0, 1, True), (0, 2, False), (2, 1, True), (1, 2, False), (2, 2, True), (0, 0, False), (1, 1, True)):
                rows = (0,) if other else (0, 1)
                self.assertIs(is_derivation(program, "v", index, ((), ("fold", other, rows))), expected, (index, other))
            self.check(program, "v")
            self.assertEqual(derivation(program, "v", 0), ((), ("fold", 1, (0,))))

    def test_the_head_has_the_terms_of_the_head(self):
        program = Program(PLAIN, v=(
            Rule(("x", "y"), +Place("t", "x", "y"), +Place("t", "y", "x"), Place("s", "x")), Rule(("p", "q"), +Place("t", "p", "q")),
            Rule((5, "q"), +Place("t", "p", "q"))))
        self.assertIs(is_derivation(program, "v", 0, ((), ("fold", 1, (0,)))), True)
        self.assertIs(is_derivation(program, "v", 0, ((), ("fold", 1, (1,)))), False)
        self.assertIs(is_derivation(program, "v", 0, ((), ("fold", 2, (0,)))), False)
        self.assertIs(is_derivation(program, "v", 2, ((), ("fold", 1, (0,)))), False)
        self.check(program, "v")
        # Also terms that are equated behind the steps.
        keyed = Program(KEYS, v=(
            Rule(("y",), +Place("key", 0, "y"), +Place("key", 0, 5), Place("none", "y", "y")), Rule((5,), +Place("key", "k", "z"))))
        self.assertIs(is_derivation(keyed, "v", 0, ((("same", 0, 1),), ("fold", 1, (0,)))), True)
        self.assertIs(is_derivation(keyed, "v", 0, ((), ("fold", 1, (0,)))), False)
        self.check(keyed, "v")

    def test_rows_of_a_fold_are_living_and_of_the_right_tables(self):
        program = Program(KEYS, v=(Rule((), Place("none", "x", "y"), +Place("key", "x", "y")), Rule((), +Place("none", "x", "y"))))
        self.assertIs(is_derivation(program, "v", 0, ((), ("fold", 1, (0,)))), False)
        self.assertIs(is_derivation(program, "v", 0, ((), ("fold", 1, (1,)))), False)
        self.assertIsNone(derivation(program, "v", 0))
        self.check(program, "v")

    def test_negative_numbers_of_rows(self):
        program = Program(PLAIN, v=(Rule((), Place("t", "x", "y"), +Place("t", "x", "z")), Rule((), +Place("t", "x", "y"))))
        self.assertIs(is_derivation(program, "v", 0, ((), ("fold", 1, (1,)))), True)
        for ending in (("fold", 1, (-1,)), ("fold", -1, (1,)), ("fold", 0, (-1, -1)), ("fold", 0, (1, -1))):
            self.assertIs(is_derivation(program, "v", 0, ((), ending)), False)

    def test_folds_onto_rows_that_steps_made(self):
        program = Program(SHOP, v=(
            Rule(("o",), +Place("item", "o", "p"), Place("order", "o", "b")), Rule(("o",), Place("order", "o", "b"), Place("buyer", "b", "t"))))
        steps = (("refers", 0, 0), ("refers", 2, 0))
        for ending, expected in (
                (("fold", 0, (0, 2)), True), (("fold", 1, (2, 3)), True), (("fold", 1, (1, 3)), False), (("fold", 0, (0, 1)), False),
                (("fold", 1, (2, 4)), False), (("living",), False)):
            self.assertIs(is_derivation(program, "v", 0, (steps, ending)), expected)
        self.assertIs(is_derivation(program, "v", 0, (steps[:1], ("fold", 1, (2, 3)))), False)
        self.check(program, "v")

    def test_at_most_200_steps(self):
        for many, expected in ((200, True), (201, False)):
            steps = (("refers", 0, 0),) * many
            self.assertIs(is_derivation(SALES, "parts", 0, (steps, ("fold", 0, (0, 2)))), expected)

    def test_wrong_values(self):
        steps = (("refers", 0, 0),)
        ending = ("fold", 0, (0, 2))
        self.assertIs(is_derivation(SALES, "parts", 0, (steps, ending)), True)
        for value in wrong_values():
            self.assertIs(is_derivation(SALES, "parts", 0, value), False)
            self.assertIs(is_derivation(SALES, "parts", 0, (value, ending)), False)
            self.assertIs(is_derivation(SALES, "parts", 0, (steps, value)), False)
            self.assertIs(is_derivation(SALES, "parts", 0, ((value,), ending)), False)
            self.assertIs(is_derivation(SALES, "parts", 0, (steps, ending, value)), False)
            self.assertIs(is_derivation(SALES, "parts", 0, (steps, ("fold", 0, value))), False)
            self.assertIs(is_derivation(SALES, "parts", 0, (steps, (value, 0, (0, 2)))), False)
            if not (type(value) is int and value == 0):
                self.assertIs(is_derivation(SALES, "parts", 0, (steps, ("fold", value, (0, 2)))), False)
                self.assertIs(is_derivation(SALES, "parts", 0, (steps, ("fold", 0, (value, 2)))), False)
                self.assertIs(is_derivation(SALES, "parts", 0, ((("refers", value, 0),), ending)), False)
                self.assertIs(is_derivation(SALES, "parts", 0, ((("refers", 0, value),), ending)), False)
        for value in ([steps, ending], (list(steps), ending), (steps, list(ending)), ((("refers", 0, 0), ("refers", 1, 0)), ending)):
            self.assertIs(is_derivation(SALES, "parts", 0, value), False)

    def test_wrong_arguments(self):
        for function in (derivation, lambda program, name, index, **more: is_derivation(program, name, index, None, **more)):
            for value in wrong_values():
                if not isinstance(value, Program):
                    self.refused(InvalidProgram, function, value, "parts", 0)
                    self.refused(InvalidProgram, function, value, value, value, mode=value)
                self.refused_with(UnknownName, {"word": value}, function, SALES, value, 0)
                self.refused_with(UnknownName, {"word": value}, function, SALES, value, value, mode=value)
                if not (type(value) is int and value == 0):
                    self.refused_with(InvalidNumber, {"number": value}, function, SALES, "parts", value)
                    self.refused_with(InvalidNumber, {"number": value}, function, SALES, "parts", value, mode=value)
                self.refused(InvalidMode, function, SALES, "parts", 0, mode=value)
            for mode in ("answer", "Answers", "numbers ", None, ("answers",), ["numbers"], 0):
                self.refused(InvalidMode, function, SALES, "parts", 0, mode=mode)
        self.refused_with(UnknownName, {"word": "item"}, derivation, SALES, "item", 0)
        two = Program(PLAIN, v=(Rule((), +Place("s", "x")), Rule((), +Place("s", 1))))
        self.assertEqual(derivation(two, "v", 1), ((), ("living",)))
        self.refused_with(InvalidNumber, {"number": 2}, derivation, two, "v", 2)
        self.refused_with(InvalidNumber, {"number": -1}, derivation, two, "v", -1)
        none = Program(PLAIN, v=Rule((1,), Place("s", "x")), w=Rule((), Place("v", 2)))
        self.refused_with(InvalidNumber, {"number": 0}, derivation, none, "w", 0)

    def test_random_programs(self):
        dice = random.Random(32)
        seen = {}
        for scheme in [*some_schemes(), *chains()]:
            for _ in range(40):
                program = random_program(dice, scheme)
                if program is None:
                    continue
                for name in program.names:
                    for (mode, _), value in self.check(program, name).items():
                        word = None if value is None else value[1][0]
                        seen[mode, word] = seen.get((mode, word), 0) + 1
        for key in (("answers", None), ("answers", "living"), ("answers", "fold"), ("numbers", None), ("numbers", "living")):
            self.assertGreater(seen[key], 20, key)

    def test_random_values(self):
        dice = random.Random(33)
        right = 0
        for scheme in [*some_schemes(), *chains()]:
            for _ in range(40):
                program = random_program(dice, scheme)
                if program is None or not unfolded(program, program.names[-1]):
                    continue
                name = program.names[-1]
                rules = unfolded(program, name)
                index = dice.randrange(len(rules))
                found = derivation(program, name, index)
                steps = list(found[0]) if found else []
                for _ in range(12):
                    some = [step for step in steps if dice.random() < 0.9]
                    if dice.random() < 0.4:
                        some.insert(dice.randint(0, len(some)), (dice.choice(("same", "refers")), dice.randint(0, 4), dice.randint(0, 4)))
                    other = dice.randrange(len(rules))
                    fold = ("fold", other, tuple(dice.randint(0, len(rules[index]) + 1) for _ in range(len(rules[other]))))
                    ending = dice.choice([fold, fold, ("living",), ("empty",)] + ([found[1]] * 3 if found else []))
                    for mode in MODES:
                        value = (tuple(some), ending)
                        expected = is_right(scheme, rules, index, value, mode)
                        self.assertIs(is_derivation(program, name, index, value, mode=mode), expected, value)
                        right += expected
        self.assertGreater(right, 300)


if __name__ == "__main__":
    unittest.main()
