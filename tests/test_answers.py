"""[0.14], stage 9: answers, their numbers, and matches."""

import random
import unittest

from goneunseen.ask.answers import answers, matches, numbers
from goneunseen.ask.places import Place
from goneunseen.ask.programs import Program, unfolded
from goneunseen.ask.rules import Rule
from goneunseen.ask.tallies import Tally
from goneunseen.base.bases import Base
from goneunseen.errors import (
    InvalidBase, InvalidOperation, InvalidProgram, InvalidRule, InvalidScheme, TooMany, UnknownName)
from goneunseen.scheme.schemes import Scheme
from goneunseen.scheme.tables import Table
from tests.oracle import some_schemes
from tests.values import DAY, GREAT, SALES, SHOP, Case, wrong_but, wrong_values
from tests.views import random_base, random_program, random_rule, told_matches, told_numbers

PLAIN = Scheme(Table("t", 2), Table("s", 1))
S, T = Place("s", "x"), Place("t", "x", "y")
LAX = SHOP.without(("all", "buyer"))


def singles(many):
    return tuple((number,) for number in range(many))


class Answers(Case):
    def check(self, program, base):
        for living in (False, True):
            for name, counts in told_numbers(program, base, living).items():
                self.assert_same(answers(program, name, base, living=living), tuple(sorted(counts)))
                self.assertEqual(numbers(program, name, base, living=living), Tally(dict(counts)))
        for name in program.names:
            self.assertEqual(answers(program, name, base), answers(program, name, base, living=False))

    def test_the_sales(self):
        self.check(SALES, DAY)
        self.assertEqual(numbers(SALES, "bought", DAY), Tally({(10, 100): 1, (20, 100): 1, (30, 100): 1}))
        self.assertIsInstance(numbers(SALES, "bought", DAY), Tally)
        self.assertEqual(answers(SALES, "bought", Base.empty(SHOP)), ())
        self.assertEqual(numbers(SALES, "bought", Base.empty(SHOP)), Tally())

    def test_copies_and_living_rows(self):
        base = Base(PLAIN, living={"s": ((1,), (2,))}, gone={"s": ((1,), (1,), (3,)), "t": ((1, 5), (1, 5), (3, 5))})
        program = Program(PLAIN, v=Rule(("x",), S), w=Rule(("x",), +S), u=Rule(("x",), S, T, S))
        self.assertEqual(numbers(program, "v", base), Tally({(1,): 3, (2,): 1, (3,): 1}))
        self.assertEqual(numbers(program, "v", base, living=True), Tally({(1,): 1, (2,): 1}))
        self.assertEqual(numbers(program, "w", base), Tally({(1,): 1, (2,): 1}))
        self.assertEqual(numbers(program, "u", base), Tally({(1,): 18, (3,): 1}))
        self.assertEqual(answers(program, "u", base), ((1,), (3,)))
        self.assertEqual(answers(program, "u", base, living=True), ())

    def test_equal_unfolded_rules_count_each(self):
        program = Program(PLAIN, v=(Rule(("x",), S), Rule(("y",), Place("s", "y"))), w=Rule((), Place("v", "x")))
        base = Base(PLAIN, living={"s": singles(3)})
        self.assertEqual(numbers(program, "v", base), Tally({(0,): 2, (1,): 2, (2,): 2}))
        self.assertEqual(numbers(program, "w", base), Tally({(): 6}))
        self.assertEqual(answers(program, "w", base), ((),))

    def test_integers_and_repeated_variables(self):
        base = Base(PLAIN, living={"t": ((1, 1), (1, 2), (2, 1), (-GREAT, GREAT))}, gone={"t": ((2, 2), (2, 2))})
        for rule, expected in (
                (Rule(("x", 7), Place("t", "x", "x")), {(1, 7): 1, (2, 7): 2}), (Rule(("y",), Place("t", 1, "y")), {(1,): 1, (2,): 1}),
                (Rule((), Place("t", 2, 1)), {(): 1}), (Rule((), Place("t", 3, 1)), {}), (Rule(("x", "x"), T), {(1, 1): 2, (2, 2): 3, (-GREAT, -GREAT): 1}),
                (Rule(("y", "x"), +T, Place("t", "y", "x")), {(1, 1): 1, (2, 1): 1, (1, 2): 1}),
                (Rule(("x",), Place("t", -GREAT, "x")), {(GREAT,): 1})):
            program = Program(PLAIN, v=rule)
            self.assertEqual(numbers(program, "v", base), Tally(expected))
            self.check(program, base)

    def test_a_view_without_unfolded_rules_tells_nothing(self):
        program = Program(PLAIN, v=Rule((1,), S), w=Rule((), Place("v", 2)))
        self.assertEqual(answers(program, "w", Base(PLAIN, living={"s": singles(3)})), ())
        self.assertEqual(numbers(program, "w", Base(PLAIN, living={"s": singles(3)})), Tally())

    def test_numbers_can_be_great(self):
        program = Program(PLAIN, v=Rule((), *[S] * 6))
        base = Base(PLAIN, gone={"s": ((1,),) * 100})
        self.assertEqual(numbers(program, "v", base)[()], 10 ** 12)

    def test_too_many(self):
        # Each unfolded rule counts for itself.
        two = Program(PLAIN, v=(Rule((), S, Place("s", "y"), Place("s", "z")), Rule((), S, Place("s", "y"), Place("s", "z"))))
        self.assertEqual(numbers(two, "v", Base(PLAIN, living={"s": singles(36)})), Tally({(): 93312}))
        three = Program(PLAIN, v=Rule((), S, Place("s", "y"), Place("s", "z")), w=(Rule((), S), Rule((), S, S, S)))
        self.assertEqual(numbers(three, "v", Base(PLAIN, living={"s": singles(36)})), Tally({(): 46656}))
        for name in three.names:
            for function in (answers, numbers):
                for living in (False, True):
                    base = Base(PLAIN, gone={"s": singles(37)})
                    self.refused_with(TooMany, {"limit": 50000}, function, three, name, base, living=living)
                    self.assertEqual(len(function(three, name, Base(PLAIN, gone={"s": singles(36)}), living=True)), 0)

    def test_exactly_50000(self):
        program = Program(PLAIN, v=Rule((), S, Place("s", "y"), Place("t", "z", "w")))
        rows = tuple((number, 0) for number in range(51))
        # 26 * 26 * 73 is 49348, 26 * 26 * 74 is 50024.
        base = Base(PLAIN, living={"s": singles(26)}, gone={"t": tuple((number, 0) for number in range(73))})
        self.assertEqual(answers(program, "v", base), ((),))
        base = Base(PLAIN, living={"s": singles(26)}, gone={"t": tuple((number, 0) for number in range(74))})
        self.refused_with(TooMany, {"limit": 50000}, answers, program, "v", base)
        five = Program(PLAIN, v=Rule((), *[Place("s", name) for name in "abcd"], T))
        base = Base(PLAIN, living={"s": singles(10), "t": rows[:5]})
        self.assertEqual(numbers(five, "v", base), Tally({(): 50000}))
        self.refused_with(TooMany, {"limit": 50000}, numbers, five, "v", Base(PLAIN, living={"s": singles(10), "t": rows[:6]}))
        self.assertEqual(sum(1 for _ in matches(PLAIN, five["v"][0], base)), 50000)
        found = matches(PLAIN, five["v"][0], Base(PLAIN, living={"s": singles(10), "t": rows[:6]}))
        self.refused_with(TooMany, {"limit": 50000}, next, found)

    def test_different_stored_rows_count_once(self):
        program = Program(PLAIN, v=Rule((), *[+Place("s", name) for name in "abcd"], +T))
        living = {"s": singles(10), "t": tuple((number, 0) for number in range(5))}
        # Copies and rows that are living, too, do not count, other gone ones do, also where places are filtered.
        base = Base(PLAIN, living=living, gone={"s": singles(10) * 2, "t": ((0, 0),) * 30})
        self.assertEqual(numbers(program, "v", base), Tally({(): 50000}))
        base = Base(PLAIN, living=living, gone={"s": ((10,),)})
        self.refused_with(TooMany, {"limit": 50000}, numbers, program, "v", base)
        self.refused_with(TooMany, {"limit": 50000}, answers, program, "v", base, living=True)
        # Without rows of one table there is no combination.
        base = Base(PLAIN, living={"s": singles(100)})
        self.assertEqual(answers(program, "v", base), ())

    def test_no_rows_of_one_table_and_many_of_others(self):
        # One hundred million combinations of the others are no matter then.
        rule = Rule(("a", "b", "c", "d"), *[Place("s", name) for name in "abcd"], Place("t", "x", "x"))
        program = Program(PLAIN, v=rule)
        base = Base(PLAIN, living={"s": singles(100)})
        for living in (False, True):
            self.assertEqual(answers(program, "v", base, living=living), ())
            self.assertEqual(numbers(program, "v", base, living=living), Tally())
            self.assertEqual(list(matches(PLAIN, rule, base, living=living)), [])
        self.assertEqual(program(base), {"v": ()})

    def test_the_order_of_errors(self):
        huge = Base(PLAIN, living={"s": singles(100)})
        program = Program(PLAIN, v=Rule((), S, S, S))
        for function in (answers, numbers):
            for value in wrong_values():
                if not isinstance(value, Program):
                    self.refused(InvalidProgram, function, value, "v", huge)
                    self.refused(InvalidProgram, function, value, value, value, living=value)
                self.refused_with(UnknownName, {"word": value}, function, program, value, huge)
                self.refused_with(UnknownName, {"word": value}, function, program, value, value, living=value)
                if not isinstance(value, Base) or value.scheme != PLAIN:
                    self.refused(InvalidBase, function, program, "v", value)
                    self.refused(InvalidBase, function, program, "v", value, living=value)
                if value is not True and value is not False:
                    self.refused(InvalidOperation, function, program, "v", huge, living=value)
            self.refused(InvalidBase, function, SALES, "bought", DAY.on(LAX))
            self.refused(InvalidBase, function, SALES, "bought", huge)
            self.refused_with(TooMany, {"limit": 50000}, function, program, "v", huge, living=True)

    def test_random_programs(self):
        dice = random.Random(11)
        seen = 0
        for scheme in some_schemes():
            for _ in range(40):
                program, base = random_program(dice, scheme), random_base(dice, scheme)
                if program is not None:
                    self.check(program, base)
                    seen += any(told_numbers(program, base)[name] != told_numbers(program, base, True)[name] for name in program.names)
        self.assertGreater(seen, 20)


class Matches(Case):
    def check(self, scheme, rule, base):
        for living in (False, True):
            found = list(matches(scheme, rule, base, living=living))
            self.assertEqual(found, told_matches(rule, base, living))
            self.assert_same(tuple(found), tuple(told_matches(rule, base, living)))
        return found

    def test_the_sales(self):
        for name in ("bought", "parts"):
            self.check(SHOP, SALES[name][0], DAY)
            self.assertEqual(list(matches(SHOP, SALES[name][0], DAY)), list(matches(SHOP, SALES[name][0], DAY, living=False)))

    def test_pairs(self):
        base = Base(PLAIN, living={"s": ((1,), (2,))}, gone={"s": ((1,), (1,), (3,))})
        self.assertEqual(list(matches(PLAIN, Rule((), S), base)), [(((1,), False),), (((1,), True),), (((2,), True),), (((3,), False),)])
        self.assertEqual(list(matches(PLAIN, Rule((), +S), base)), [(((1,), True),), (((2,), True),)])
        self.assertEqual(list(matches(PLAIN, Rule((), S), base, living=True)), [(((1,), True),), (((2,), True),)])
        self.assertEqual(list(matches(PLAIN, Rule((), S, +S), base)), [(((1,), False), ((1,), True)), (((1,), True), ((1,), True)), (((2,), True), ((2,), True))])
        self.assertEqual(len(list(matches(PLAIN, Rule((), S, Place("s", "y")), base))), 16)
        self.check(PLAIN, Rule((), S, Place("s", "y"), Place("s", 1)), base)

    def test_it_is_a_generator(self):
        found = matches(SHOP, SALES["parts"][0], DAY)
        self.assertIs(iter(found), found)
        self.assertEqual(next(found), (((5, 100), True), ((5, 1), True)))
        self.assertEqual(len(list(found)), 2)
        self.assertEqual(list(found), [])

    def test_each_match_comes_as_it_is_asked_for(self):
        base = Base(PLAIN, living={"s": singles(50)}, gone={"s": singles(50)})
        found = matches(PLAIN, Rule((), S, Place("s", "y")), base)
        self.assertEqual([next(found) for _ in range(3)], [(((0,), False), ((0,), False)), (((0,), False), ((0,), True)), (((0,), False), ((1,), False))])

    def test_errors_come_with_the_first_result(self):
        rule = Rule((), S, S, S)
        huge = Base(PLAIN, living={"s": singles(100)})
        parted = Rule(("x",), S, without=((T,),))
        def first(*args, **more):
            found = matches(*args, **more)
            next(found)
        for value in wrong_values():
            if not isinstance(value, Scheme):
                self.refused(InvalidScheme, first, value, rule, huge)
                self.refused(InvalidScheme, first, value, value, value, living=value)
            self.refused(InvalidRule, first, PLAIN, value, huge)
            self.refused(InvalidRule, first, PLAIN, value, value, living=value)
            if not isinstance(value, Base) or value.scheme != PLAIN:
                self.refused(InvalidBase, first, PLAIN, rule, value)
                self.refused(InvalidBase, first, PLAIN, rule, value, living=value)
            if value is not True and value is not False:
                self.refused(InvalidOperation, first, PLAIN, rule, huge, living=value)
        self.refused(InvalidRule, first, PLAIN, parted, huge)
        self.refused(InvalidRule, first, SHOP, rule, huge)
        self.refused(InvalidRule, first, PLAIN, Rule((), Place("t", "x")), huge)
        self.refused(InvalidBase, first, LAX, SALES["parts"][0], DAY)
        self.refused_with(TooMany, {"limit": 50000}, first, PLAIN, rule, huge)
        self.refused_with(TooMany, {"limit": 50000}, first, PLAIN, rule, huge, living=True)

    def test_random_rules(self):
        dice = random.Random(12)
        for scheme in some_schemes():
            sources = [(table.name, table.width, True) for table in scheme]
            for _ in range(60):
                self.check(scheme, random_rule(dice, sources, 3), random_base(dice, scheme))

    def test_matches_and_numbers_agree(self):
        for name in SALES.names:
            for living in (False, True):
                rules = unfolded(SALES, name)
                heads = {}
                for rule in rules:
                    for match in matches(SHOP, rule, DAY, living=living):
                        values = {term: part for place, pair in zip(rule, match) for term, part in zip(place.terms, pair[0])}
                        answer = tuple(values.get(term, term) for term in rule.head)
                        heads[answer] = heads.get(answer, 0) + 1
                self.assertEqual(numbers(SALES, name, DAY, living=living), Tally(heads))


if __name__ == "__main__":
    unittest.main()
