"""[18.2], stage 18: shells."""

import random
import unittest

from goneunseen.ask.answers import answers
from goneunseen.ask.spots import Spots
from goneunseen.base.bases import Base
from goneunseen.desk.desk import Desk
from goneunseen.errors import (
    BrokenRule, GoneError, InvalidCommand, InvalidMode, InvalidOperation, InvalidRow, InvalidScheme, KeyTaken, Misled, Missing, NotGone, NothingToUndo, NotLiving, ParseError,
    Referred, TooMany, UnknownName)
from goneunseen.scheme.schemes import Scheme
from goneunseen.store.histories import history_to
from goneunseen.text.columns import base_columns
from goneunseen.text.formats import format_history, format_program, format_scheme
from goneunseen.text.shell import Shell
from tests.values import DAY, GREAT, SALES, SHOP, TOO_GREAT, Case, wrong_values

LAX = SHOP.without(("all", "buyer"))
SALES_LINE = format_program(SALES).replace("\n", " / ")
BUYERS = ("put buyer 1,10", "put buyer 2,20", "put order 5,1")


def filled(*lines):
    shell = Shell(SHOP)
    for line in [*BUYERS, *lines]:
        shell.do(line)
    return shell


def state(shell):
    desk = shell.copied_desk()
    return desk.scheme, desk.base, [(name, desk.question(name)) for name in desk.names], desk.policy, desk.log, desk.undone, shell.log


class Shells(Case):
    def test_a_new_shell(self):
        shell = Shell(SHOP)
        self.assertEqual(state(shell), (SHOP, Base.empty(SHOP), [], "free", (), (), ()))
        self.assertIs(type(shell.copied_desk()), Desk)
        with self.assertRaises(AttributeError):
            shell.log = ()
        for value in wrong_values():
            if not isinstance(value, Scheme):
                self.refused(InvalidScheme, Shell, value)

    def test_commands(self):
        shell = Shell(SHOP)
        for line, result in (
                ("put buyer 1,10", None), ("put order 5,1", None), ("put item 5,7", None), ("along buyer 1,10", "take item 5,7 / take order 5,1 / take buyer 1,10"), ("back buyer 1,10", None),
                ("take buyer 1,10", None), ("purge item 5,7", None), (f"put buyer {-GREAT},{GREAT}", None)):
            before = shell.log
            self.assert_same(shell.do(line), result or line)
            self.assertEqual(shell.log, before + (line,))
        self.assertEqual(shell.copied_desk().log[3], ("do", (("take", "item", (5, 7)), ("take", "order", (5, 1)), ("take", "buyer", (1, 10)))))

    def test_undo_and_redo(self):
        shell = filled()
        log = shell.log
        for line, result, is_logged in (
                ("undo 2", "1", True), ("undo 0", "1", False), ("redo 0", "1", False), ("redo 1", "2", True), ("undo 2", "0", True), ("redo 3", "3", True), ("undo 1", "2", True)):
            self.assert_same(shell.do(line), result)
            log = log + (line,) if is_logged else log
            self.assertEqual(shell.log, log)
        self.assertEqual(shell.copied_desk().undone, (("do", (("put", "order", (5, 1)),)),))
        before = state(shell)
        self.refused_with(NothingToUndo, {"many": 3}, shell.do, "undo 3")
        self.refused_with(NothingToUndo, {"many": GREAT}, shell.do, f"redo {GREAT}")
        self.assertEqual(state(shell), before)
        for line in ("undo", "undo ", "undo -1", "undo 01", "undo +1", "undo 1 ", "undo 1 1", "undo x", f"undo {TOO_GREAT}", "undo  1", "redo", "redo -0", "undo 1,1", "undo 1.0"):
            self.refused(InvalidCommand, shell.do, line)
        self.assertEqual(state(shell), before)

    def test_questions(self):
        shell = filled("put item 5,7", "put buyer 3,10", "take item 5,7")
        line = f"define who bought answers {SALES_LINE}"
        self.assert_same(shell.do(line), "{}")
        self.assertEqual(shell.copied_desk().question("who"), (SALES, "bought", "answers"))
        self.assertEqual(shell.do(f"define what parts numbers {SALES_LINE}"), "{}")
        self.assertEqual(shell.log[-2], line)
        logged = shell.log
        for line, result in (("names", "what who"), ("tell who", "none"), ("tell what", "none"), ("surplus who", "none"), ("surplus what", "none"), ("parted", "-")):
            self.assert_same(shell.do(line), result)
        self.assertEqual(shell.log, logged)
        self.assertEqual(shell.do("drop who"), "done")
        self.assertEqual(shell.do("policy mend"), "done")
        self.assertEqual([shell.log[-2:], shell.copied_desk().policy], [("drop who", "policy mend"), "mend"])
        self.assertEqual(shell.do(f"define who bought answers {SALES_LINE}"), "{bought 0 0}")
        self.assertEqual(shell.copied_desk().question("who"), (SALES + Spots(("bought", 0, 0)), "bought", "answers"))
        adopted = f"adopt {format_scheme(LAX)}".replace("\n", " / ")
        self.assertEqual(shell.do(adopted), "done")
        self.assertEqual([shell.log[-1], shell.copied_desk().scheme, str(shell.copied_desk().question("who")[0].places - shell.copied_desk().question("who")[0].free)], [adopted, LAX, "{bought 0 0, bought 0 1, bought 0 2, parts 0 0, parts 0 1}".replace(", parts 0 1", "")])

    def test_tell_and_surplus(self):
        shell = Shell(SHOP)
        for command in history_to(DAY):
            shell.do(format_history((command,)))
        for view in SALES.names:
            shell.do(f"define {view} {view} answers {SALES_LINE}")
        shell.do(f"define n parts numbers {SALES_LINE}")
        shell.do("define empty v answers v: () if +order(o, b)")
        shell.do("define none v answers v: () if +order(o, -5)")
        for line, result in (
                ("tell bought", "10,100 20,100 30,100"), ("surplus bought", "30,100"), ("tell parts", "100"), ("surplus parts", "none"), ("tell n", "(100) * 3"), ("surplus n", "(100) * 1"),
                ("tell empty", "-"), ("surplus empty", "none"), ("tell none", "none"), ("parted", "bought n towns"), ("tell towns", "10 20 30"), ("names", "bought empty n none parts towns"),
                ("show order", base_columns(DAY, "order").replace("\n", " / ")), ("show item", "5 100 living 1 / 5 200 gone   1 / 6 100 living 1")):
            self.assert_same(shell.do(line), result)
        self.assertEqual(answers(SALES, "bought", DAY), ((10, 100), (20, 100), (30, 100)))
        self.refused_with(TooMany, {"limit": 6}, shell.do, f"define seven parts answers {SALES_LINE}")
        shell = Shell(SHOP)
        self.assert_same([shell.do("names"), shell.do("parted"), shell.do("show item")], ["-", "-", ""])

    def test_errors_of_the_desk(self):
        shell = filled("take order 5,1", f"define who bought answers {SALES_LINE}")
        before = state(shell)
        for line, error in (
                ("put buyer 1,11", KeyTaken), ("put order 6,9", Missing), ("put nosuch 1", UnknownName), ("put buyer 1", InvalidRow), ("take buyer 9,9", NotLiving), ("back buyer 1,10", NotGone),
                ("purge buyer 1,10", NotGone), ("along order 5,1", NotLiving), ("along nosuch 5", UnknownName), ("drop nosuch", UnknownName), ("tell nosuch", UnknownName), ("surplus nosuch", UnknownName),
                ("show nosuch", UnknownName), ("policy strict", Misled), ("policy loose", InvalidOperation), ("adopt buyer 2", InvalidOperation), (f"define a nosuch answers {SALES_LINE}", UnknownName),
                (f"define a bought answer {SALES_LINE}", InvalidMode), (f"define a nosuch answer {SALES_LINE}", UnknownName)):
            self.refused(error, shell.do, line)
        self.assertEqual(state(shell), before)
        shell.do("back order 5,1")
        self.refused(Referred, shell.do, "take buyer 1,10")
        lax = Shell(LAX)
        for line in ("put buyer 1,10", "take buyer 1,10", "put buyer 1,11"):
            lax.do(line)
        self.refused_with(BrokenRule, {"rule": ("all", "buyer")}, lax.do, f"adopt {format_scheme(SHOP)}".replace("\n", " / "))

    def test_errors_of_texts(self):
        shell = filled()
        before = state(shell)
        for line in (
                "define a v answers x", "define a nosuch answer x", "define a v answers  v: () if order(o, b)", "define a v answers v: () if order(o, b) ", "define a v answers v: () if order(o, b) /  w: () if order(o, b)",
                "define a v answers v: () if order(o)", "define a v answers /", "define a v answers  ", "define order v answers v: () if nosuch(o)", "adopt x", "adopt  buyer 2", "adopt buyer 2 ", "adopt /", "adopt buyer 2/a 1",
                "adopt buyer 2 /  a 1", "adopt  "):
            self.refused(ParseError, shell.do, line)
        self.assertEqual(state(shell), before)
        self.assertEqual(shell.do("define a w answers v: () if order(o, b) / w: () if order(o, b)"), "{}")

    def test_no_lines(self):
        shell = filled()
        before = state(shell)
        for value in wrong_values():
            self.refused(InvalidCommand, shell.do, value)
        for line in (
                "", " ", "put", "put ", "put buyer", "put buyer ", "put  1,10", "put buyer  1,10", " put buyer 7,70", "put buyer 7,70 ", "put buyer 7,70\n", "put buyer 7,70\nnames", "Put buyer 7,70", "put Buyer 7,70", "put buyer 07,70",
                "put buyer 7,", "put buyer 7, 70", "put buyer 1,2,3,4,5", f"put buyer {TOO_GREAT},1", "put ninelongs 1", "put buyer x", "take buyer 1,10 1", "mark buyer 1,10 living", "along buyer", "names ", " names", "names x", "parted 1",
                "tell", "tell ", "tell a b", "tell A", "surplus", "show", "show buyer 1", "show 1", "drop", "drop a b", "drop 1", "policy", "policy free ", "policy Free", "adopt", "adopt ", "define", "define a", "define a v", "define a v answers",
                "define a v answers ", "define A v answers x", "define a V answers x", "define a v Answers x", "define a v answers  x\n", "define  a v answers x", "define a  v answers x", "define ninelongs v answers x", "define a v ninelongs x", "do put", "quit",
                "put\tbuyer 7,70", "undo 1\n", "log", "put buyer -0,1", "adopt buyer 2\nadopt buyer 2"):
            self.refused(InvalidCommand, shell.do, line)
        self.assertEqual(state(shell), before)

    def test_results(self):
        shell = Shell(SHOP)
        found = shell.results((*BUYERS, "names", "put buyer 1,11", "put buyer 3,30"))
        self.assertIs(iter(found), found)
        self.assertEqual(shell.log, ())
        self.assertEqual([next(found), shell.log], ["put buyer 1,10", BUYERS[:1]])
        self.assertEqual([next(found), next(found), next(found)], ["put buyer 2,20", "put order 5,1", "-"])
        self.refused(KeyTaken, next, found)
        self.assertEqual(list(found), [])
        self.assertEqual(shell.log, BUYERS)
        self.assertEqual(list(shell.results(())), [])
        for value in wrong_values():
            if not isinstance(value, tuple):
                self.refused(InvalidOperation, next, shell.results(value))
            self.refused(InvalidCommand, next, shell.results((value,)))
        self.refused(InvalidOperation, next, shell.results(["names"]))

    def test_equality_and_copied_desks(self):
        one, other = filled(), filled("take order 5,1", "undo 1")
        self.assertIs(one == other, True)
        self.assertIs(one != other, False)
        self.assertNotEqual(one.log, other.log)
        other.do("policy mend")
        self.assertIs(one == other, False)
        for value in [*wrong_values(), one.copied_desk()]:
            self.assertIs(one == value, False)
            self.assertIs(one != value, True)
        before = state(one)
        desk = one.copied_desk()
        desk.purge_all()
        desk.undo(len(desk.log))
        desk.set_policy("mend")
        self.assertEqual(state(one), before)

    def test_it_does_what_a_desk_does(self):
        dice = random.Random(151)
        shell, desk = Shell(SHOP), Desk(SHOP)
        logged = []
        for _ in range(400):
            table, row = dice.choice(SHOP.names), (dice.randint(0, 2), dice.randint(0, 2))
            word = dice.choice(("put", "put", "take", "along", "back", "purge", "undo", "redo", "policy", "drop", "define"))
            many, name = dice.randint(0, 2), dice.choice("ab")
            policy, view, mode = dice.choice(("strict", "mend", "free")), dice.choice(SALES.names), dice.choice(("answers", "numbers"))
            line, call, result = {
                "along": (f"along {table} {row[0]},{row[1]}", lambda: desk.take(table, row, along=True), None),
                "undo": (f"undo {many}", lambda: desk.undo(many), lambda: str(len(desk.log))), "redo": (f"redo {many}", lambda: desk.redo(many), lambda: str(len(desk.log))),
                "policy": (f"policy {policy}", lambda: desk.set_policy(policy), lambda: "done"), "drop": (f"drop {name}", lambda: desk.drop(name), lambda: "done"),
                "define": (f"define {name} {view} {mode} {SALES_LINE}", lambda: desk.define(name, SALES, view, mode=mode), None),
            }.get(word, (f"{word} {table} {row[0]},{row[1]}", lambda: desk.do((word, table, row)), None))
            try:
                told = call()
            except (GoneError, UnknownName, TooMany) as error:
                raised = self.refused(type(error), shell.do, line)
                self.assertEqual({key: vars(raised)[key] for key in vars(raised) if key != "paper"}, {key: vars(error)[key] for key in vars(error) if key != "paper"})
            else:
                expected = result() if result else str(told) if word == "define" else format_history(told).replace("\n", " / ")
                self.assertEqual(shell.do(line), expected)
                if not (word in ("undo", "redo") and many == 0):
                    logged.append(line)
            self.assertEqual(shell.copied_desk(), desk)
            self.assertEqual([shell.copied_desk().log, shell.copied_desk().undone, shell.log], [desk.log, desk.undone, tuple(logged)])
        # The lines of the log alone lead to the same desk.
        again = Shell(SHOP)
        list(again.results(shell.log))
        self.assertIs(again == shell, True)
        self.assertEqual(again.log, shell.log)


if __name__ == "__main__":
    unittest.main()
