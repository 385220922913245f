"""Stage 13: papers."""

import random
import unittest

from goneunseen.ask.answers import answers, numbers
from goneunseen.ask.places import Place
from goneunseen.ask.programs import Program, unfolded
from goneunseen.ask.rules import Rule
from goneunseen.ask.spots import Spots
from goneunseen.base.bases import Base
from goneunseen.errors import InvalidMode, InvalidPaper
from goneunseen.faith.papers import Derived, Misleading, Paper
from goneunseen.frozen.derivations import derivation
from goneunseen.frozen.frozen import frozen
from goneunseen.scheme.schemes import Scheme
from goneunseen.scheme.tables import Table
from goneunseen.store.histories import history_to, run
from tests.freezing import chains
from tests.oracle import random_model, some_schemes
from tests.values import SALES, SHOP, Case, wrong_values
from tests.views import random_program, told_numbers

MODES = ("answers", "numbers")
FILTERED = SALES + Spots(("bought", 0, 0))
RIGHT = ((("refers", 0, 0), ("same", 1, 3)), ("living",))
FOLD = ((("refers", 0, 0),), ("fold", 0, (0, 2)))
PLAIN = Scheme(Table("t", 2), Table("s", 1))
S = Place("s", "x")
# An order is made and gone, another one with its number and another buyer lives, and has an item.
HISTORY = (
    ("put", "buyer", (1, 10)), ("put", "buyer", (2, 20)), ("put", "order", (5, 1)), ("take", "order", (5, 1)),
    ("put", "order", (5, 2)), ("put", "item", (5, 100)))


class Papers(Case):
    def test_modes(self):
        self.assert_same(Paper.MODES, MODES)
        self.assert_same([Derived.MODES, Misleading.MODES, Paper("numbers").MODES], [MODES, MODES, MODES])
        for mode in MODES:
            for paper, verdict in ((Paper(mode), None), (Derived(mode, ()), "faithful"), (Misleading(mode, (), ()), "misled")):
                self.assertEqual([paper.mode, paper.verdict], [mode, verdict])
                for name in ("mode", "verdict"):
                    with self.assertRaises(AttributeError):
                        setattr(paper, name, None)
        for value in wrong_values():
            self.refused(InvalidMode, Paper, value)
            self.refused(InvalidMode, Derived, value, ())
            self.refused(InvalidMode, Derived, value, value)
            self.refused(InvalidMode, Misleading, value, (), ())
            self.refused(InvalidMode, Misleading, value, value, value)
        for mode in ("answer", "Answers", "numbers ", ("answers",)):
            self.refused(InvalidMode, Paper, mode)

    def test_what_papers_show_at_all(self):
        for mode in MODES:
            for name in SALES.names:
                self.assertIs(Paper(mode).shows(SALES, name), True)
            for paper in (Paper(mode), Derived(mode, (FOLD,)), Misleading(mode, HISTORY, (10, 100))):
                for value in wrong_values():
                    self.assertIs(paper.shows(SALES, value), False)
                    if not isinstance(value, Program):
                        self.assertIs(paper.shows(value, "parts"), False)
                        self.assertIs(paper.shows(value, value), False)
                for name in ("order", "nosuch", "", None, ("parts",), ["parts"]):
                    self.assertIs(paper.shows(SALES, name), False)

    def test_wrong_arguments(self):
        for value in wrong_values():
            if not isinstance(value, tuple):
                self.refused(InvalidPaper, Derived, "answers", value)
                self.refused(InvalidPaper, Misleading, "answers", value, ())
                self.refused(InvalidPaper, Misleading, "answers", (), value)
                self.refused(InvalidPaper, Misleading, "answers", value, value)

    def test_every_tuple_is_kept(self):
        for value in wrong_values():
            kept = (value, (value, 1))
            self.assert_same(Derived("numbers", kept).derivations, kept)
            self.assert_same(Misleading("numbers", kept, (value,)).history, kept)
            self.assert_same(Misleading("numbers", (), kept).answer, kept)
            for mode in MODES:
                for paper in (Derived(mode, kept), Derived(mode, (value,)), Misleading(mode, kept, (100,)), Misleading(mode, HISTORY, kept)):
                    for name in SALES.names:
                        self.assertIs(paper.shows(SALES, name), False)

    def test_equality(self):
        def papers():
            return [
                Paper("answers"), Paper("numbers"), Derived("answers", ()), Derived("numbers", ()), Derived("answers", (FOLD,)),
                Derived("answers", (RIGHT,)), Misleading("answers", (), ()), Misleading("numbers", (), ()), Misleading("answers", HISTORY, ()),
                Misleading("answers", (), (10, 100)), Misleading("answers", HISTORY, (10, 100)), Misleading("answers", ([1],), ({"a": 1},))]
        for first, one in enumerate(papers()):
            for second, other in enumerate(papers()):
                self.assertIs(one == other, first == second)
                self.assertIs(one != other, first != second)
            self.assert_unlike_all(one)

    def test_no_access_to_what_is_kept(self):
        inner, table = [1], {"a": [2]}
        papers = [Derived("answers", ((inner, table),)), Misleading("answers", ((inner, table),), ()), Misleading("answers", (), ((inner, table),))]
        kept = (([1], {"a": [2]}),)
        inner.append(3)
        table["a"].append(4)
        table["b"] = 5
        for paper, name in zip(papers, ("derivations", "history", "answer")):
            self.assertEqual(getattr(paper, name), kept)
            getattr(paper, name)[0][0].append(3)
            getattr(paper, name)[0][1]["a"].append(4)
            self.assertEqual(getattr(paper, name), kept)
            with self.assertRaises(AttributeError):
                setattr(paper, name, ())


class DerivedPapers(Case):
    def test_the_sales(self):
        for mode in MODES:
            self.assertIs(Derived(mode, (RIGHT,)).shows(FILTERED, "bought"), True)
            self.assertIs(Derived(mode, (RIGHT,)).shows(SALES, "bought"), False)
            self.assertIs(Derived(mode, (RIGHT,)).shows(FILTERED, "towns"), True)
            self.assertIs(Derived(mode, (RIGHT,)).shows(FILTERED, "parts"), False)
            self.assertIs(Derived(mode, (FOLD,)).shows(SALES, "parts"), mode == "answers")
            self.assertIs(Derived(mode, (RIGHT,)).shows(FILTERED.under(SHOP.without(("all", "buyer"))), "bought"), False)

    def test_as_many_derivations_as_unfolded_rules(self):
        two = Program(PLAIN, v=(Rule(("x",), +S), Rule((1,), +S, S)), w=Rule((), Place("v", "x")), u=Rule((1,), Place("v", 2), Place("v", 2)))
        living, fold = ((), ("living",)), ((), ("fold", 1, (0, 0)))
        for derivations, expected in (
                ((), False), ((living,), False), ((living, fold), True), ((fold, living), False), ((living, fold, fold), False),
                ((living, living), False), ((living, ((), ("fold", 0, (0,)))), False)):
            self.assertIs(Derived("answers", derivations).shows(two, "v"), expected)
        self.assertIs(Derived("numbers", (living, fold)).shows(two, "v"), False)
        none = Program(PLAIN, v=Rule((1,), S), w=Rule((), Place("v", 2)))
        self.assertIs(Derived("answers", ()).shows(none, "w"), True)
        self.assertIs(Derived("numbers", ()).shows(none, "w"), True)
        self.assertIs(Derived("answers", ()).shows(none, "v"), False)
        self.assertIs(Derived("answers", (living,)).shows(none, "w"), False)

    def test_anything_but_tuples_integers_and_strings_shows_nothing(self):
        steps, ending = FOLD
        for value in (
                list(FOLD), (list(steps), ending), (steps, list(ending)), ((["refers", 0, 0],), ending), (steps, ("fold", 0, [0, 2])),
                ((("refers", False, 0),), ending), ((("refers", 0, False),), ending), (steps, ("fold", False, (0, 2))), (steps, ("fold", 0, (False, 2))),
                (steps, ending, None), FOLD + FOLD, None, {}):
            self.assertIs(Derived("answers", (value,)).shows(SALES, "parts"), False)
            self.assertIs(Derived("answers", (FOLD, value)).shows(SALES, "parts"), False)
        self.assertIs(Derived("answers", (FOLD,)).shows(SALES, "parts"), True)


class MisleadingPapers(Case):
    def test_the_sales(self):
        for mode in MODES:
            self.assertIs(Misleading(mode, HISTORY, (10, 100)).shows(SALES, "bought"), True)
            self.assertIs(Misleading(mode, HISTORY, (10, 100)).shows(FILTERED, "bought"), False)
            self.assertIs(Misleading(mode, HISTORY, (10,)).shows(SALES, "towns"), True)
            self.assertIs(Misleading(mode, HISTORY, (100,)).shows(SALES, "parts"), mode == "numbers")
            for answer in ((20, 100), (30, 100), (100, 10), (10,), (), (10, 100, 1), (10, True), (10, "100"), ((10, 100),), (10, 10 ** 30), (10, None)):
                self.assertIs(Misleading(mode, HISTORY, answer).shows(SALES, "bought"), False, answer)
            self.assertIs(Misleading(mode, HISTORY, (20,)).shows(SALES, "towns"), False)

    def test_histories(self):
        for mode in MODES:
            for history in (
                    HISTORY[1:], HISTORY[:-1], HISTORY + HISTORY[-1:], HISTORY + (("put", "nosuch", (1,)),), HISTORY + (None,), (HISTORY,),
                    HISTORY[:-1] + (["put", "item", (5, 100)],), HISTORY + (("put", "item", (True, 100)),), (), HISTORY + (("purge", "order", (5, 1)),)):
                self.assertIs(Misleading(mode, history, (10, 100)).shows(SALES, "bought"), False)
            more = HISTORY + (("put", "buyer", (7, 70)), ("take", "buyer", (7, 70)))
            self.assertIs(Misleading(mode, more, (10, 100)).shows(SALES, "bought"), True)
            # It is a history of the program's scheme.
            self.assertIs(Misleading(mode, HISTORY, (10, 100)).shows(SALES.under(SHOP.without(("all", "buyer"))), "bought"), True)
            other = (("put", "order", (5, 1)),) + HISTORY
            lax = SHOP.without(("refers", "order", (1,), "buyer")).without(("refers", "item", (0,), "order"))
            free = SALES.under(lax)
            loose = (("put", "order", (5, 1)), ("take", "order", (5, 1)), ("put", "buyer", (1, 10)), ("put", "item", (5, 100)))
            self.assertIs(Misleading(mode, loose, (10, 100)).shows(free, "bought"), True)
            self.assertIs(Misleading(mode, loose, (10, 100)).shows(SALES, "bought"), False)
            self.assertIs(Misleading(mode, other, (10, 100)).shows(SALES, "bought"), False)

    def test_histories_of_2000_commands(self):
        idle = (("put", "buyer", (7, 70)),) + (("take", "buyer", (7, 70)), ("back", "buyer", (7, 70))) * 1000
        for mode in MODES:
            history = HISTORY + idle[:2000 - len(HISTORY)]
            self.assertEqual(len(history), 2000)
            self.assertIs(Misleading(mode, history, (10, 100)).shows(SALES, "bought"), True)
            history = HISTORY + idle[:2001 - len(HISTORY)]
            self.assertIs(Misleading(mode, history, (10, 100)).shows(SALES, "bought"), False)

    def test_bases_of_60_rows(self):
        puts = tuple(("put", "s", (number,)) for number in range(60))
        program = Program(PLAIN, v=Rule(("x",), S), w=Rule(("a", "f"), *[Place("s", name) for name in "abcdef"]))
        gone = (("put", "s", (99,)), ("take", "s", (99,)))
        for mode in MODES:
            self.assertIs(Misleading(mode, gone + puts[:59], (99,)).shows(program, "v"), True)
            self.assertIs(Misleading(mode, gone + puts, (99,)).shows(program, "v"), False)
            # Products above 50000 are no matter.
            self.assertIs(Misleading(mode, gone + puts[:59], (99, 5)).shows(program, "w"), True)
            self.assertIs(Misleading(mode, gone + puts[:59], (4, 5)).shows(program, "w"), mode == "numbers")
            self.assertIs(Misleading(mode, puts, (4, 5)).shows(program, "w"), False)

    def test_living_and_gone(self):
        both = (("put", "s", (1,)), ("take", "s", (1,)), ("put", "s", (1,)))
        program = Program(PLAIN, v=Rule(("x",), S), w=Rule(("x",), +S), u=(Rule(("x",), S), Rule(("x",), +S)), x=(Rule((1,), S, +S), Rule((2,), +S)))
        self.assertEqual([Misleading("answers", both, (1,)).shows(program, name) for name in "vwux"], [False] * 4)
        self.assertEqual([Misleading("numbers", both, (1,)).shows(program, name) for name in "vwux"], [True, False, True, True])
        self.assertEqual([Misleading("answers", both[:2], (1,)).shows(program, name) for name in "vwux"], [True, False, True, False])
        self.assertEqual([Misleading("numbers", both[:2], (1,)).shows(program, name) for name in "vwux"], [True, False, True, False])
        self.assertIs(Misleading("numbers", both, (2,)).shows(program, "x"), False)
        none = Program(PLAIN, v=Rule((1,), S), w=Rule((), Place("v", 2)))
        self.assertIs(Misleading("answers", both, ()).shows(none, "w"), False)
        self.assertIs(Misleading("numbers", both, ()).shows(none, "w"), False)

    def test_random_histories(self):
        dice = random.Random(51)
        shown = {mode: 0 for mode in MODES}
        for scheme in [*some_schemes(), *chains()]:
            for _ in range(60):
                program = random_program(dice, scheme)
                if program is None:
                    continue
                program = program - program.places if dice.random() < 0.7 else program
                history = random_model(dice, scheme, 60)[1]
                base = run(scheme, history)
                everything, living = told_numbers(program, base), told_numbers(program, base, True)
                for name in program.names:
                    surplus = [answer for answer in everything[name] if answer not in living[name]]
                    for answer in [*surplus[:3], *list(everything[name])[:3], (0,), (1, 1), ()]:
                        for mode in MODES:
                            if mode == "answers":
                                expected = answer in everything[name] and answer not in living[name]
                            else:
                                expected = everything[name][answer] > living[name][answer]
                            self.assertIs(Misleading(mode, history, answer).shows(program, name), expected)
                            shown[mode] += expected
        self.assertGreater(min(shown.values()), 50)


class Guarantee(Case):
    def test_either_derivations_or_a_history(self):
        """[0.17]: with derivations for all unfolded rules no base misleads; without one its frozen base does."""
        dice = random.Random(52)
        seen = {"faithful": 0, "misled": 0}
        for scheme in [*some_schemes(), *chains()]:
            for _ in range(30):
                program = random_program(dice, scheme)
                if program is None:
                    continue
                avoid = tuple(number for view in program.names for rule in program[view] for number in rule.integers)
                base = run(scheme, random_model(dice, scheme, 25)[1])
                for name in program.names:
                    for mode in MODES:
                        rules = unfolded(program, name)
                        found = tuple(derivation(program, name, index, mode=mode) for index in range(len(rules)))
                        paper = Derived(mode, found)
                        self.assertIs(paper.shows(program, name), None not in found)
                        tell = answers if mode == "answers" else numbers
                        if None in found:
                            at, _, head = frozen(scheme, rules[found.index(None)], avoid=avoid)
                            paper = Misleading(mode, history_to(at), head)
                            self.assertIs(paper.shows(program, name), True)
                            self.assertLessEqual(len(paper.history), 120)
                        else:
                            self.assertEqual(tell(program, name, base), tell(program, name, base, living=True))
                        seen[paper.verdict] += 1
        self.assertGreater(min(seen.values()), 100)

    def test_bases_of_many_rows(self):
        base = Base(SHOP, living={"buyer": ((1, 10),)}, gone={"order": ((5, 1),)})
        self.assertIs(Misleading("answers", history_to(base), ()).shows(Program(SHOP, v=Rule((), Place("order", "o", "b"))), "v"), True)
        self.assertIs(Misleading("answers", history_to(base), ()).shows(Program(SHOP, v=Rule((), +Place("order", "o", "b"))), "v"), False)


if __name__ == "__main__":
    unittest.main()
