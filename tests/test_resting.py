"""[16.1], stage 16: what a program rests on."""

import random
import unittest

from goneunseen.ask.places import Place
from goneunseen.ask.programs import Program
from goneunseen.ask.rules import Rule
from goneunseen.ask.spots import Spots
from goneunseen.errors import InvalidMode, InvalidOperation, InvalidProgram, Misled, UnknownName
from goneunseen.faith.faithful import faith_paper, is_faithful
from goneunseen.faith.papers import Derived, Misleading
from goneunseen.least.filters import fewest
from goneunseen.least.resting import is_loosest, is_resting, loosest, rests_on
from goneunseen.scheme.schemes import Scheme
from goneunseen.scheme.tables import Table
from tests.freezing import chains
from tests.oracle import some_schemes
from tests.values import SALES, SHOP, Case, wrong_values
from tests.views import random_program

MODES = ("answers", "numbers")
PLAIN = Scheme(Table("t", 2), Table("s", 1))
FILTERED = SALES + Spots(("bought", 0, 0))


def loose_rules(scheme):
    """The rules of the scheme without which it can be, with the schemes without them."""
    found = []
    for rule in scheme.rules:
        try:
            found.append((rule, scheme.without(rule)))
        except InvalidOperation:
            pass
    return found


def looser_schemes(scheme):
    """All schemes within this one."""
    found, queue = [], [scheme]
    while queue:
        one = queue.pop()
        if one not in found:
            found.append(one)
            queue += [other for _, other in loose_rules(one)]
    return found


def is_truly_loosest(program, name, mode, scheme):
    if not is_faithful(program.under(scheme), name, mode=mode):
        return False
    return not any(is_faithful(program.under(other), name, mode=mode) for _, other in loose_rules(scheme))


class Resting(Case):
    def check(self, program, name, mode):
        found = rests_on(program, name, mode=mode)
        expected = [rule for rule, scheme in loose_rules(program.scheme) if not is_faithful(program.under(scheme), name, mode=mode)]
        self.assertEqual(list(found), expected)
        self.assertIs(type(found), dict)
        for rule, paper in found.items():
            self.assertIs(type(paper), Misleading)
            self.assertEqual(paper.mode, mode)
            self.assertLessEqual(len(paper.history), 120)
            self.assertIs(paper.shows(program.under(program.scheme.without(rule)), name), True)
        self.assertIs(is_resting(program, name, found, mode=mode), True)
        self.assertIs(is_resting(program, name, dict(reversed(list(found.items()))), mode=mode), True)
        for rule in found:
            self.assertIs(is_resting(program, name, {key: found[key] for key in found if key != rule}, mode=mode), False)
            for other in found:
                swapped = {**found, rule: found[other]}
                shows = found[other].shows(program.under(program.scheme.without(rule)), name)
                self.assertIs(is_resting(program, name, swapped, mode=mode), shows)
        for rule, _ in loose_rules(program.scheme):
            if rule not in found:
                for paper in list(found.values())[:1] + [faith_paper(program, name, mode=mode)]:
                    self.assertIs(is_resting(program, name, {**found, rule: paper}, mode=mode), False)
        scheme = loosest(program, name, mode=mode)
        self.assertIs(type(scheme), Scheme)
        self.assertTrue(scheme.within(program.scheme))
        self.assertTrue(is_truly_loosest(program, name, mode, scheme))
        self.assertIs(is_loosest(program, name, scheme, mode=mode), True)
        return found, scheme

    def test_the_sales(self):
        found, scheme = self.check(FILTERED, "bought", "answers")
        self.assertEqual(list(found), [("all", "buyer"), ("refers", "order", (1,), "buyer")])
        self.assertEqual(rests_on(FILTERED, "bought"), found)
        self.assertEqual(loosest(FILTERED, "bought"), scheme)
        self.check(FILTERED, "towns", "numbers")
        found, _ = self.check(SALES, "parts", "answers")
        self.assertEqual(list(found), [("refers", "item", (0,), "order")])

    def test_a_program_that_rests_on_nothing(self):
        program = Program(SHOP, v=Rule(("o",), +Place("order", "o", "b")), w=Rule((1,), +Place("order", "o", "b")), u=Rule((), Place("w", 2)))
        for mode in MODES:
            for name in program.names:
                found, scheme = self.check(program, name, mode)
                self.assertEqual([found, scheme.rules], [{}, ()])
                self.assertIs(is_resting(program, name, {}, mode=mode), True)
                for other in looser_schemes(SHOP):
                    self.assertIs(is_loosest(program, name, other, mode=mode), other == scheme)

    def test_a_key_that_another_rule_needs_is_not_loose(self):
        found, _ = self.check(FILTERED, "bought", "answers")
        paper = found["all", "buyer"]
        for key in (("key", "buyer", (0,)), ("key", "order", (0,)), ("refers", "item", (0,), "order")):
            self.assertIs(is_resting(FILTERED, "bought", {**found, key: paper}), False)
        keyed = Scheme(Table("t", 2, key=(0,)), Table("s", 1))
        program = Program(keyed, v=Rule(("y",), +Place("t", 1, "y"), +Place("t", 1, 5), Place("s", "y")), w=Rule(("y",), +Place("t", 1, "y"), +Place("t", 1, 5), +Place("s", 5), Place("s", "y")))
        for mode in MODES:
            found, scheme = self.check(program + Spots(("v", 0, 2)), "v", mode)
            self.assertEqual([list(found), scheme], [[], PLAIN])
        found, scheme = self.check(program, "w", "answers")
        self.assertEqual([list(found), scheme], [[("key", "t", (0,))], keyed])

    def test_equal_keys_of_other_kinds(self):
        found = rests_on(FILTERED, "bought")
        self.assertIs(is_resting(FILTERED, "bought", found), True)
        for key in (("refers", "order", (True,), "buyer"), ("refers", "order", (1,), "nosuch"), ("all", "order"), "all", 1, True, None, (), ("all",)):
            some = {rule: found[rule] for rule in found if rule != ("refers", "order", (1,), "buyer")}
            self.assertIs(is_resting(FILTERED, "bought", {**some, key: found["refers", "order", (1,), "buyer"]}), False)
            self.assertIs(is_resting(FILTERED, "bought", {**found, key: found["all", "buyer"]}) and key not in found, False)

    def test_schemes(self):
        all_loosest = [scheme for scheme in looser_schemes(SHOP) if is_truly_loosest(FILTERED, "bought", "answers", scheme)]
        for scheme in looser_schemes(SHOP):
            self.assertIs(is_loosest(FILTERED, "bought", scheme), scheme in all_loosest)
        self.assertEqual(len(all_loosest), 1)
        more = SHOP.with_rule(("all", "order"))
        for scheme in (more, PLAIN, Scheme(*[SHOP[name] for name in ("buyer", "order")]), more.without(("all", "buyer"))):
            self.assertIs(is_loosest(FILTERED, "bought", scheme), False)
        self.assertIs(is_loosest(SALES, "parts", SHOP), False)

    def test_several_loosest_schemes(self):
        # The head is one of a living row by either reference.
        scheme = Scheme(Table("k", 1, key=(0,)), Table("f", 1, refers=(((0,), "k"),)), Table("g", 1, refers=(((0,), "k"),)))
        program = Program(scheme, v=Rule(("x",), +Place("f", "x"), +Place("g", "x"), Place("k", "x")))
        found, _ = self.check(program, "v", "answers")
        self.assertEqual(found, {})
        loose = [other for other in looser_schemes(scheme) if is_loosest(program, "v", other)]
        self.assertEqual([other.rules for other in loose], [other.rules for other in looser_schemes(scheme) if is_truly_loosest(program, "v", "answers", other)])
        self.assertEqual(len(loose), 2)

    def test_random_programs(self):
        dice = random.Random(101)
        seen = {}
        for scheme in [*some_schemes(), *chains()]:
            for _ in range(30):
                program = random_program(dice, scheme)
                if program is None:
                    continue
                name = program.names[-1]
                for mode in MODES:
                    if len(program.free) > 8:
                        continue
                    faithful = program + fewest(program, name, mode=mode)
                    found, _ = self.check(faithful, name, mode)
                    seen[mode, min(len(found), 2)] = seen.get((mode, min(len(found), 2)), 0) + 1
                    if not is_faithful(program, name, mode=mode):
                        self.refused(Misled, rests_on, program, name, mode=mode)
        for mode in MODES:
            self.assertGreater(min(seen[mode, 0], seen[mode, 1]), 5)
        self.assertGreater(seen["numbers", 2] + seen["answers", 2], 3)


class Arguments(Case):
    def test_wrong_arguments(self):
        judges = [lambda program, name, judge=judge, **more: judge(program, name, None, **more) for judge in (is_resting, is_loosest)]
        for function in [rests_on, loosest, *judges]:
            for value in wrong_values():
                if not isinstance(value, Program):
                    self.refused(InvalidProgram, function, value, "bought")
                    self.refused(InvalidProgram, function, value, value, mode=value)
                self.refused_with(UnknownName, {"word": value}, function, SALES, value)
                self.refused_with(UnknownName, {"word": value}, function, SALES, value, mode=value)
                self.refused(InvalidMode, function, SALES, "bought", mode=value)
            for program, name, mode in ((SALES, "bought", "answers"), (SALES, "towns", "numbers"), (SALES, "parts", "numbers"), (FILTERED.under(SHOP.without(("all", "buyer"))), "bought", "answers")):
                raised = self.refused(Misled, function, program, name, mode=mode)
                self.assertEqual(raised.word, name)
                self.assertIs(type(raised.paper), Misleading)
                self.assertEqual(raised.paper.mode, mode)
                self.assertIs(raised.paper.shows(program, name), True)
            self.refused(Misled, function, SALES, "bought")
            self.refused_with(UnknownName, {"word": "item"}, function, SALES, "item")

    def test_wrong_values(self):
        found = rests_on(FILTERED, "bought")
        for value in wrong_values():
            if value != SHOP:
                self.assertIs(is_loosest(FILTERED, "bought", value), False)
            self.assertIs(is_resting(FILTERED, "bought", value), False)
            for rule in found:
                self.assertIs(is_resting(FILTERED, "bought", {**found, rule: value}), False)
        some = found["all", "buyer"]
        for paper in (Derived("answers", ()), Misleading("numbers", some.history, some.answer), Misleading("answers", some.history[:-1], some.answer), (some,)):
            self.assertIs(is_resting(FILTERED, "bought", {**found, ("all", "buyer"): paper}), False)
        self.assertIs(is_resting(FILTERED, "bought", list(found.items())), False)
        self.assertIs(is_resting(FILTERED, "bought", found, mode="numbers"), False)


if __name__ == "__main__":
    unittest.main()
