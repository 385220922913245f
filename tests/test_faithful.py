"""[0.17], [13.1], stage 13: faithful programs."""

import random
import unittest

from goneunseen.ask.answers import matches
from goneunseen.ask.places import Place
from goneunseen.ask.programs import Program, unfolded
from goneunseen.ask.rules import Rule
from goneunseen.ask.spots import Spots
from goneunseen.base.bases import Base
from goneunseen.errors import InvalidBase, InvalidMode, InvalidProgram, TooMany, UnknownName
from goneunseen.faith.faithful import faith_paper, is_faithful, misled_views, misleads
from goneunseen.faith.papers import Derived, Misleading
from goneunseen.frozen.frozen import is_frozen
from goneunseen.scheme.schemes import Scheme
from goneunseen.scheme.tables import Table
from goneunseen.store.histories import run
from tests.freezing import chains, freeze, with_integers
from tests.oracle import some_schemes
from tests.values import DAY, SALES, SHOP, Case, wrong_values
from tests.views import random_base, random_program, told_numbers

MODES = ("answers", "numbers")
PLAIN = Scheme(Table("t", 2), Table("s", 1))
LAX = SHOP.without(("all", "buyer"))
S, T = Place("s", "x"), Place("t", "x", "y")


def integers_of(program):
    return tuple(number for name in program.names for rule in program[name] for number in rule.integers)


def is_misled_in(program, name, mode, base):
    """Whether a base misleads, told view by view without unfolding."""
    everything, living = told_numbers(program, base)[name], told_numbers(program, base, True)[name]
    if mode == "answers":
        return set(everything) != set(living)
    return +everything != +living


def is_misled(dice, program, name, mode):
    """Whether one of the bases to which the unfolded rules freeze misleads, frozen in the slow way."""
    for rule in unfolded(program, name):
        found = freeze(dice, program.scheme, rule)
        if found is not None:
            base, _, _ = with_integers(dice, program.scheme, rule, found, integers_of(program))
            if is_misled_in(program, name, mode, base):
                return True
    return False


class Faithful(Case):
    def check(self, program, name, mode, expected):
        """Everything that is told of a view agrees with whether it is misled."""
        paper = faith_paper(program, name, mode=mode)
        self.assertIs(type(paper), Misleading if expected else Derived)
        self.assertEqual([paper.mode, paper.verdict], [mode, "misled" if expected else "faithful"])
        self.assertIs(paper.shows(program, name), True)
        self.assertIs(is_faithful(program, name, mode=mode), not expected)
        self.assertIs(name in misled_views(program, mode=mode), expected)
        if expected:
            self.assertLessEqual(len(paper.history), 120)
            base = run(program.scheme, paper.history)
            self.assertIs(misleads(program, name, base, mode=mode), True)
            self.assertTrue(self.is_from_freezing(program, name, base, paper.answer))
        return paper

    def is_from_freezing(self, program, name, base, answer):
        for rule in unfolded(program, name):
            for match in matches(program.scheme, rule, base):
                if is_frozen(program.scheme, rule, (base, match, answer), avoid=integers_of(program)):
                    return True
        return False

    def test_the_sales(self):
        filtered = SALES + Spots(("bought", 0, 0))
        for program, mode, expected in (
                (SALES, "answers", ("bought", "towns")), (SALES, "numbers", ("bought", "parts", "towns")),
                (filtered, "answers", ()), (filtered, "numbers", ("parts",)),
                (filtered.under(LAX), "answers", ("bought", "towns"))):
            self.assert_same(misled_views(program, mode=mode), expected)
            for name in program.names:
                self.check(program, name, mode, name in expected)
        self.assertEqual(misled_views(SALES), ("bought", "towns"))
        self.assertEqual(faith_paper(SALES, "bought"), faith_paper(SALES, "bought", mode="answers"))
        self.assertIs(is_faithful(SALES, "parts"), True)

    def test_views_without_unfolded_rules(self):
        program = Program(PLAIN, v=Rule((1,), S), w=Rule((), Place("v", 2)))
        for mode in MODES:
            self.assertEqual(self.check(program, "w", mode, False).derivations, ())
            self.check(program, "v", mode, True)
            self.assertEqual(misled_views(program, mode=mode), ("v",))
            self.assertIs(misleads(program, "w", Base(PLAIN, gone={"s": ((1,),)}), mode=mode), False)

    def test_rules_that_are_empty(self):
        clash = Rule(("p",), +Place("order", "o", 1), +Place("order", "o", 2), Place("item", "o", "p"))
        program = Program(SHOP, v=clash, w=(clash, Rule(("p",), +Place("item", "o", "p"))), u=(Rule(("p",), Place("item", "o", "p")), clash))
        for mode in MODES:
            self.check(program, "v", mode, False)
            self.check(program, "w", mode, False)
            self.check(program, "u", mode, True)

    def test_answers_against_numbers(self):
        program = Program(PLAIN, v=Rule(("x",), +S, S, Place("s", "y")), w=(Rule(("x",), +S), Rule(("x",), +S, T)), u=Rule(("x",), +S, T))
        for name, answers, numbers in (("v", False, True), ("w", False, True), ("u", True, True)):
            self.check(program, name, "answers", answers)
            self.check(program, name, "numbers", numbers)

    def test_integers_of_the_program_are_avoided(self):
        # Another rule of the view would tell the answer if an integer of the program were a new one.
        for number in range(6):
            program = Program(PLAIN, v=(Rule(("x",), T, +S), Rule(("x",), +Place("s", "x"), +Place("s", number))), w=Rule((number,), +S))
            self.check(program, "v", "answers", True)
        many = Program(PLAIN, v=(Rule(("x",), T, +S), Rule(("x",), +S, +Place("s", 0)), Rule(("x",), +S, +Place("s", 1))), w=Rule((2,), +S))
        paper = self.check(many, "v", "answers", True)
        self.assertEqual([part for command in paper.history for part in command[2] if part in (0, 1, 2)], [])

    def test_120_commands(self):
        scheme = Scheme(
            Table("a", 1, key=(0,)), Table("b", 1, key=(0,), refers=(((0,), "a"),)), Table("c", 1, key=(0,), refers=(((0,), "b"),)),
            Table("d", 2, refers=(((0,), "c"), ((1,), "c"))))
        places = [Place("d", first, second) for first, second in zip("abcdef", "uvwxyz")]
        program = Program(scheme, v=Rule(("a", "b", "c", "d"), *places))
        for mode in MODES:
            paper = self.check(program, "v", mode, True)
            self.assertEqual(len(paper.history), 120)
            self.assertEqual(run(scheme, paper.history).size, 6)

    def test_one_and_only_one_of_two(self):
        dice = random.Random(61)
        seen = {}
        for scheme in [*some_schemes(), *chains()]:
            for _ in range(40):
                program = random_program(dice, scheme)
                if program is None:
                    continue
                base = random_base(dice, scheme)
                for name in program.names:
                    for mode in MODES:
                        expected = is_misled(dice, program, name, mode)
                        paper = self.check(program, name, mode, expected)
                        told = misleads(program, name, base, mode=mode)
                        self.assertIs(told, is_misled_in(program, name, mode, base))
                        if not expected:
                            self.assertIs(told, False)
                        seen[mode, expected, told] = seen.get((mode, expected, told), 0) + 1
                        for other in MODES:
                            fits = other == mode or (other == "numbers" if expected else other == "answers")
                            if fits:
                                again = Misleading(other, paper.history, paper.answer) if expected else Derived(other, paper.derivations)
                                self.assertIs(again.shows(program, name), True)
        self.assertGreater(min(seen.values()), 20)
        self.assertEqual(len(seen), 6)

    def test_more_filters_never_make_a_faithful_program_unfaithful(self):
        dice = random.Random(62)
        changed = 0
        for scheme in some_schemes():
            for _ in range(30):
                program = random_program(dice, scheme)
                if program is None:
                    continue
                some = [spot for spot in program.free if dice.random() < 0.5]
                for mode in MODES:
                    before, behind = misled_views(program, mode=mode), misled_views(program + Spots(*some), mode=mode)
                    self.assertLessEqual(set(behind), set(before))
                    self.assertEqual(misled_views(program + program.free, mode=mode), ())
                    changed += behind != before
        self.assertGreater(changed, 30)


class Misleads(Case):
    def test_the_sales(self):
        for name, answers, numbers in (("bought", True, True), ("parts", False, True), ("towns", True, True)):
            self.assertIs(misleads(SALES, name, DAY), answers)
            self.assertIs(misleads(SALES, name, DAY, mode="answers"), answers)
            self.assertIs(misleads(SALES, name, DAY, mode="numbers"), numbers)
            for mode in MODES:
                self.assertIs(misleads(SALES, name, DAY.alive(), mode=mode), False)
                self.assertIs(misleads(SALES, name, Base.empty(SHOP), mode=mode), False)

    def test_too_many(self):
        program = Program(PLAIN, v=Rule(("x",), S, Place("s", "y"), Place("s", "z")), w=Rule(("x",), S))
        huge = Base(PLAIN, living={"s": tuple((number,) for number in range(37))})
        for mode in MODES:
            self.refused_with(TooMany, {"limit": 50000}, misleads, program, "v", huge, mode=mode)
            self.assertIs(misleads(program, "w", huge, mode=mode), False)
            fewer = Base(PLAIN, living={"s": tuple((number,) for number in range(35))}, gone={"s": ((35,),)})
            self.assertIs(misleads(program, "v", fewer, mode=mode), True)
        self.refused(InvalidMode, misleads, program, "v", huge, mode="answer")

    def test_the_order_of_errors(self):
        program = Program(PLAIN, v=Rule((), S, Place("s", "y"), Place("s", "z")))
        huge = Base(PLAIN, living={"s": tuple((number,) for number in range(60))})
        for value in wrong_values():
            if not isinstance(value, Base) or value.scheme != PLAIN:
                self.refused(InvalidBase, misleads, program, "v", value)
                self.refused(InvalidBase, misleads, program, "v", value, mode=value)
            self.refused(InvalidMode, misleads, program, "v", huge, mode=value)
            self.refused_with(UnknownName, {"word": value}, misleads, program, value, value, mode=value)
            if not isinstance(value, Program):
                self.refused(InvalidProgram, misleads, value, value, value, mode=value)
        self.refused(InvalidBase, misleads, SALES, "bought", DAY.on(LAX))


class Arguments(Case):
    def test_wrong_arguments(self):
        for function in (faith_paper, is_faithful):
            for value in wrong_values():
                if not isinstance(value, Program):
                    self.refused(InvalidProgram, function, value, "bought")
                    self.refused(InvalidProgram, function, value, value, mode=value)
                self.refused_with(UnknownName, {"word": value}, function, SALES, value)
                self.refused_with(UnknownName, {"word": value}, function, SALES, value, mode=value)
                self.refused(InvalidMode, function, SALES, "bought", mode=value)
            for mode in ("answer", "Answers", "numbers ", ("answers",)):
                self.refused(InvalidMode, function, SALES, "bought", mode=mode)
            self.refused_with(UnknownName, {"word": "order"}, function, SALES, "order")
        for value in wrong_values():
            if not isinstance(value, Program):
                self.refused(InvalidProgram, misled_views, value)
                self.refused(InvalidProgram, misled_views, value, mode=value)
            self.refused(InvalidMode, misled_views, SALES, mode=value)


if __name__ == "__main__":
    unittest.main()
