"""[0.18], [15.1], [15.2], stage 15: the fewest filters."""

import itertools
import random
import unittest

from goneunseen.ask.places import Place
from goneunseen.ask.programs import Program, below
from goneunseen.ask.rules import Rule
from goneunseen.ask.spots import Spots
from goneunseen.errors import InvalidMode, InvalidProgram, TooMany, UnknownName
from goneunseen.faith.faithful import faith_paper, is_faithful
from goneunseen.faith.papers import Derived, Misleading
from goneunseen.least.filters import (
    fewest, is_fewest, is_least_paper, is_mending, is_needy, is_tight, least_paper, needy_sets, tight_sets)
from goneunseen.scheme.schemes import Scheme
from goneunseen.scheme.tables import Table
from tests.freezing import chains
from tests.oracle import some_schemes
from tests.values import SALES, SHOP, Case, wrong_values
from tests.views import random_program

MODES = ("answers", "numbers")
PLAIN = Scheme(Table("t", 2), Table("s", 1))
GRID = Program(
    Scheme(Table("g", 2, key=(0,)), Table("r", 2)),
    v=Rule((), Place("g", "x", "k"), Place("g", "x", "l"), Place("r", "k", "l"), Place("r", "k", "k")))
JUDGES = (is_mending, is_tight, is_fewest, is_needy, is_least_paper)
MAKERS = (fewest, least_paper, lambda *args, **more: next(tight_sets(*args, **more)), lambda *args, **more: next(needy_sets(*args, **more)))


def subsets(spots):
    spots = list(spots)
    return [Spots(*some) for many in range(len(spots) + 1) for some in itertools.combinations(spots, many)]


class Truth:
    """All that is told of the free spots of a view, from whether programs with filters are faithful."""

    def __init__(self, program, name, mode):
        self.free = below(program, name) & program.free
        self.all = subsets(self.free)
        self.mending = [some for some in self.all if is_faithful(program + some, name, mode=mode)]
        self.tight = [some for some in self.mending if not any(other.within(some) and other != some for other in self.mending)]
        least = min(len(some) for some in self.mending)
        self.fewest = [some for some in self.mending if len(some) == least]
        self.needy = [some for some in self.all if self.free - some not in self.mending]
        self.least_needy = [some for some in self.needy if not any(other.within(some) and other != some for other in self.needy)]


def in_order(sets):
    return sorted(sets, key=tuple)


def misses(needs, spots):
    return any(not needy & spots for needy, _ in needs)


class Filters(Case):
    def check(self, program, name, mode):
        truth = Truth(program, name, mode)
        self.assertEqual(list(tight_sets(program, name, mode=mode)), in_order(truth.tight))
        self.assertEqual(list(needy_sets(program, name, mode=mode)), in_order(truth.least_needy))
        self.assertIn(fewest(program, name, mode=mode), truth.fewest)
        for some in truth.all if len(truth.all) <= 64 else truth.all[::7]:
            self.assertIs(is_mending(program, name, some, mode=mode), some in truth.mending)
            self.assertIs(is_tight(program, name, some, mode=mode), some in truth.tight)
            self.assertIs(is_fewest(program, name, some, mode=mode), some in truth.fewest)
            self.assertIs(is_needy(program, name, some, mode=mode), some in truth.needy)
            self.assertIs(is_mending(program, name, some, mode=mode), all(some & needy for needy in truth.least_needy))
        self.check_paper(program, name, mode, truth)
        return truth

    def check_paper(self, program, name, mode, truth):
        paper = least_paper(program, name, mode=mode)
        self.assertIs(is_least_paper(program, name, paper, mode=mode), True)
        spots, derived, needs = paper
        self.assertIs(type(paper), tuple)
        self.assertIn(spots, truth.fewest)
        self.assertIs(type(derived), Derived)
        self.assertEqual(derived.mode, mode)
        self.assertIs(derived.shows(program + spots, name), True)
        self.assertIs(type(needs), tuple)
        self.assertLessEqual(len(needs), 100)
        for needy, misleading in needs:
            self.assertIn(needy, truth.needy)
            self.assertIs(type(misleading), Misleading)
            self.assertEqual(misleading.mode, mode)
            self.assertIs(misleading.shows(program + (truth.free - needy), name), True)
            self.assertLessEqual(len(misleading.history), 120)
        for some in truth.all:
            if len(some) < len(spots):
                self.assertTrue(misses(needs, some))

    def test_the_sales(self):
        for mode, name, tight, needy in (
                ("answers", "bought", ["{bought 0 0}"], ["{bought 0 0}"]), ("answers", "parts", ["{}"], []), ("answers", "towns", ["{bought 0 0}"], ["{bought 0 0}"]),
                ("numbers", "bought", ["{bought 0 0}"], ["{bought 0 0}"]), ("numbers", "parts", ["{parts 0 1}"], ["{parts 0 1}"])):
            self.check(SALES, name, mode)
            self.assertEqual([str(spots) for spots in tight_sets(SALES, name, mode=mode)], tight)
            self.assertEqual([str(spots) for spots in needy_sets(SALES, name, mode=mode)], needy)
        self.assertEqual(fewest(SALES, "parts"), Spots())
        self.assertIs(is_fewest(SALES, "parts", Spots()), True)
        self.assertEqual(least_paper(SALES, "parts")[2], ())

    def test_the_grid(self):
        for mode in MODES:
            self.check(GRID, "v", mode)
        self.assertEqual([str(fewest(GRID, "v"))], ["{v 0 0, v 0 3}"])

    def test_views_that_share_spots(self):
        program = Program(
            PLAIN, a=Rule(("x", "y"), Place("t", "x", "y"), Place("s", "x")), b=(Rule(("x",), Place("a", "x", "y"), Place("a", "y", "z")), Rule(("x",), +Place("s", "x"), Place("t", "x", "y"))),
            c=Rule((), Place("b", "x"), Place("s", 5)))
        for mode in MODES:
            for name in program.names:
                truth = self.check(program, name, mode)
                self.assertEqual(len(truth.free), {"a": 2, "b": 3, "c": 4}[name])

    def test_no_free_spots_and_no_rules(self):
        program = Program(PLAIN, v=Rule(("x",), +Place("s", "x")), w=Rule((), Place("v", 2)), u=Rule((1,), Place("s", "x")), x=Rule((), Place("u", 2), Place("u", "y")))
        for mode in MODES:
            for name in ("v", "w", "x"):
                self.check(program, name, mode)
                self.assertEqual([fewest(program, name, mode=mode), list(tight_sets(program, name, mode=mode)), list(needy_sets(program, name, mode=mode))], [Spots(), [Spots()], []])
                self.assertIs(is_needy(program, name, Spots(), mode=mode), False)

    def test_eight_and_nine_free_spots(self):
        four = [Place("s", name) for name in "abcd"]
        rules = (Rule((), *four), Rule((), Place("t", "a", "b"), *four[:3]), Rule((), +Place("s", "a"), Place("t", "a", "b")))
        eight, nine = Program(PLAIN, v=rules[:2]), Program(PLAIN, v=rules, w=Rule((), Place("s", "x")))
        for mode in MODES:
            self.check(eight, "v", mode)
            for function in MAKERS:
                self.refused_with(TooMany, {"limit": 8}, function, nine, "v", mode=mode)
                function(nine, "w", mode=mode)
            for judge in JUDGES:
                self.refused_with(TooMany, {"limit": 8}, judge, nine, "v", None, mode=mode)
                self.assertIs(judge(nine, "w", None, mode=mode), False)
                self.refused(InvalidMode, judge, nine, "v", Spots(), mode="answer")
        one = nine + Spots(("v", 0, 0))
        self.check(one, "v", "numbers")

    def test_many_needy_sets(self):
        # Each pair of the eight places is needed by some base in answers: a needy set for each choice.
        places = [Place("s", name) for name in "abcdef"]
        program = Program(PLAIN, v=Rule((), *places))
        for mode in MODES:
            truth = self.check(program, "v", mode)
            self.assertEqual([len(some) for some in truth.tight], [1] * 6 if mode == "answers" else [6])

    def test_random_programs(self):
        dice = random.Random(81)
        seen = {}
        for scheme in [*some_schemes(), *chains()]:
            for _ in range(12):
                program = random_program(dice, scheme)
                if program is None:
                    continue
                program = program - Spots(*[spot for spot in program.places if dice.random() < 0.7])
                for name in program.names:
                    if len(below(program, name) & program.free) > 5:
                        continue
                    for mode in MODES:
                        truth = self.check(program, name, mode)
                        key = (mode, len(truth.fewest[0]))
                        seen[key] = seen.get(key, 0) + 1
                        seen["tight"] = seen.get("tight", 0) + (len(truth.tight) > 1)
        for key in [*itertools.product(MODES, (0, 1, 2)), "tight", ("numbers", 3)]:
            self.assertGreater(seen[key], 8, (key, seen))

    def test_all_tight_sets_of_one_rule_are_equally_large(self):
        # [0.18], in numbers; and in answers if all keys have the scope "all".
        dice = random.Random(82)
        firm = Scheme(Table("a", 2, key=(0,), scope="all"), Table("b", 2, key=(0,), scope="all", refers=(((1,), "a"),)), Table("c", 2, refers=(((0,), "b"),)))
        for scheme in [firm, *some_schemes(), *chains()]:
            is_firm = all(table.key is None or table.scope == "all" for table in scheme)
            for _ in range(25):
                places = []
                for _ in range(dice.randint(1, 4)):
                    table = dice.choice(list(scheme))
                    places.append(Place(table.name, *[dice.choice("xyz") for _ in range(table.width)]))
                program = Program(scheme, v=Rule((), *places))
                self.assertEqual(len({len(spots) for spots in tight_sets(program, "v", mode="numbers")}), 1)
                if is_firm:
                    self.assertEqual(len({len(spots) for spots in tight_sets(program, "v")}), 1)


class Judging(Case):
    def test_wrong_sets(self):
        for judge in (is_mending, is_tight, is_fewest):
            self.assertIs(judge(SALES, "bought", Spots(("bought", 0, 0))), True)
            for value in (
                    Spots(("bought", 0, 0), ("parts", 0, 1)), Spots(("bought", 0, 2)), Spots(("bought", 0, 0), ("bought", 0, 2)), Spots(("bought", 0, 9)), Spots(("towns", 0, 0)),
                    Spots(("nosuch", 0, 0)), (("bought", 0, 0),), ("bought", 0, 0), Spots(), Spots(("bought", 0, 1))):
                self.assertIs(judge(SALES, "bought", value), False)
        both = Spots(("bought", 0, 0), ("bought", 0, 1))
        self.assertEqual([judge(SALES, "bought", both) for judge in (is_mending, is_tight, is_fewest, is_needy)], [True, False, False, True])
        for value in (Spots(("bought", 0, 0), ("bought", 0, 2)), Spots(("bought", 0, 2)), (("bought", 0, 0),), Spots(), Spots(("bought", 0, 1))):
            self.assertIs(is_needy(SALES, "bought", value), False)
        # Not to be left out of a tight set, while another one has fewer.
        tight = Spots(("v", 0, 0), ("v", 0, 1), ("v", 0, 2))
        self.assertEqual([judge(GRID, "v", tight) for judge in (is_mending, is_tight, is_fewest)], [True, True, False])
        for value in wrong_values():
            for judge in (is_mending, is_tight, is_fewest, is_needy):
                if not (isinstance(value, Spots) and value == Spots(("bought", 0, 0))):
                    self.assertIs(judge(SALES, "bought", value), False)

    def test_least_papers(self):
        spots, derived, ((needy, misleading),) = least_paper(SALES, "bought")
        both, other = Spots(("bought", 0, 0), ("bought", 0, 1)), Spots(("bought", 0, 1))
        wide = faith_paper(SALES + both, "bought")
        narrow = faith_paper(SALES + other, "bought")
        for value, expected in (
                ((spots, derived, ((needy, misleading),)), True), ((spots, derived, ((needy, misleading),) * 100), True),
                ((spots, derived, ((needy, misleading),) * 101), False), ((spots, derived, ()), False), ((both, wide, ((needy, misleading),)), False),
                ((both, wide, ((needy, misleading), (other, misleading))), False), ((spots, wide, ((needy, misleading),)), wide.shows(SALES + spots, "bought")),
                ((spots, derived, ((both, misleading),)), True), ((spots, derived, ((other, misleading),)), False), ((spots, derived, ((Spots(), misleading),)), False),
                ((spots, derived, ((both | Spots(("bought", 0, 2)), misleading),)), False), ((spots, derived, ((needy, narrow), (needy, misleading))), True),
                ((spots, derived, [(needy, misleading)]), False), ((spots, derived, ([needy, misleading],)), False), ((spots, derived, ((needy, misleading, 0),)), False),
                ([spots, derived, ((needy, misleading),)], False), ((spots, derived), False), ((spots, derived, ((needy, misleading),), None), False),
                ((spots, misleading, ((needy, misleading),)), False), ((spots, derived, ((needy, derived),)), False), ((needy.listed, derived, ((needy, misleading),)), False),
                ((spots, Derived("numbers", derived.derivations), ((needy, misleading),)), False), ((spots, Derived("answers", ()), ((needy, misleading),)), False),
                ((spots, derived, ((needy, Misleading("numbers", misleading.history, misleading.answer)),)), False),
                ((spots, derived, ((needy, Misleading("answers", misleading.history[:-1], misleading.answer)),)), False),
                ((spots, derived, ((needy, Misleading("answers", misleading.history, ())),)), False), ((Spots(), derived, ()), False)):
            self.assertIs(is_least_paper(SALES, "bought", value), expected, value)
        for value in wrong_values():
            for paper in (
                    value, (value, derived, ((needy, misleading),)), (spots, value, ((needy, misleading),)), (spots, derived, (value,)),
                    (spots, derived, ((value, misleading),)), (spots, derived, ((needy, value),)), (spots, derived, ((needy, misleading), value))):
                if not (isinstance(value, Spots) and value == spots):
                    self.assertIs(is_least_paper(SALES, "bought", paper), False)
            if value != ():
                self.assertIs(is_least_paper(SALES, "bought", (spots, derived, value)), False)
        self.assertIs(is_least_paper(SALES, "parts", least_paper(SALES, "parts")), True)
        self.assertIs(is_least_paper(SALES, "parts", least_paper(SALES, "bought")), False)
        self.assertIs(is_least_paper(SALES, "parts", least_paper(SALES, "parts"), mode="numbers"), False)

    def test_needy_sets_that_do_not_suffice(self):
        spots, derived, needs = least_paper(GRID, "v")
        self.assertEqual(len(spots), 2)
        for some in [tuple(some) for many in range(4) for some in itertools.combinations(needs, many)]:
            expected = all(misses(some, Spots(spot)) for spot in GRID.free) and misses(some, Spots())
            self.assertIs(is_least_paper(GRID, "v", (spots, derived, some)), expected)
        for others in tight_sets(GRID, "v"):
            paper = faith_paper(GRID + others, "v")
            self.assertIs(is_least_paper(GRID, "v", (others, paper, needs)), len(others) == 2)


class Arguments(Case):
    def test_wrong_arguments(self):
        nine = Program(PLAIN, v=(Rule((), *[Place("s", name) for name in "abcdef"]), Rule((), *[Place("s", name) for name in "abc"])))
        judges = [lambda program, name, judge=judge, **more: judge(program, name, Spots(), **more) for judge in JUDGES]
        for function in [*MAKERS, *judges]:
            for value in wrong_values():
                if not isinstance(value, Program):
                    self.refused(InvalidProgram, function, value, "v")
                    self.refused(InvalidProgram, function, value, value, mode=value)
                self.refused_with(UnknownName, {"word": value}, function, nine, value)
                self.refused_with(UnknownName, {"word": value}, function, nine, value, mode=value)
                self.refused(InvalidMode, function, nine, "v", mode=value)
            self.refused_with(UnknownName, {"word": "item"}, function, SALES, "item")
            self.refused_with(TooMany, {"limit": 8}, function, nine, "v")

    def test_generators(self):
        for function in (tight_sets, needy_sets):
            found = function(None, None, mode=None)
            self.assertIs(iter(found), found)
            self.refused(InvalidProgram, next, found)
            found = function(GRID, "v")
            self.assertIs(type(next(found)), Spots)


if __name__ == "__main__":
    unittest.main()
