"""Stage 17: journals."""

import random
import unittest

from goneunseen.desk.journal import Journal
from goneunseen.errors import InvalidNumber, InvalidOperation, NothingToUndo
from tests.values import SHOP, Case, nested, wrong_values


def is_step(value):
    """Whether the value is a step, told apart from the program."""
    def is_item(part):
        return part is None or type(part) in (str, int, bool) or (type(part) is tuple and all(is_item(one) for one in part))
    return type(value) is tuple and value != () and type(value[0]) is str and value[0].isalpha() and value[0].islower() \
        and value[0].isascii() and len(value[0]) <= 8 and is_item(value[1:])


class Journals(Case):
    def filled(self):
        journal = Journal()
        for number in range(4):
            journal.enter(("step", number))
        journal.undo()
        return journal

    def state(self, journal):
        return journal.log, journal.undone

    def test_an_empty_journal(self):
        self.assert_same(self.state(Journal()), ((), ()))
        self.assert_same([Journal().undo(0), Journal().redo(0)], [(), ()])
        for method in (Journal().undo, Journal().redo):
            self.refused_with(NothingToUndo, {"many": 1}, method)
            self.refused_with(NothingToUndo, {"many": 10 ** 39}, method, 10 ** 39)

    def test_undo_and_redo(self):
        journal, steps = Journal(), [("a",), ("b", 1), ("c", "x", None, True, (1, ("y", ())))]
        for step in steps:
            self.assertIsNone(journal.enter(step))
        self.assert_same(self.state(journal), (tuple(steps), ()))
        self.assert_same(journal.undo(2), (steps[2], steps[1]))
        self.assert_same(self.state(journal), ((steps[0],), (steps[1], steps[2])))
        self.assert_same(journal.undo(), (steps[0],))
        self.assert_same(self.state(journal), ((), tuple(steps)))
        self.assert_same(journal.redo(), (steps[0],))
        self.assert_same(journal.redo(many=2), (steps[1], steps[2]))
        self.assert_same(self.state(journal), (tuple(steps), ()))
        self.assert_same(journal.undo(0), ())
        self.assert_same(journal.undo(many=1), (steps[2],))
        # What is entered forgets what was undone.
        journal.enter(("d",))
        self.assert_same(self.state(journal), ((*steps[:2], ("d",)), ()))
        self.refused_with(NothingToUndo, {"many": 1}, journal.redo)

    def test_undo_and_redo_of_nothing_forget_nothing(self):
        journal = self.filled()
        before = self.state(journal)
        self.assertEqual([journal.undo(0), journal.redo(0)], [(), ()])
        self.assertEqual(self.state(journal), before)

    def test_refused_calls_change_nothing(self):
        journal = self.filled()
        before = self.state(journal)
        for value in wrong_values():
            if not is_step(value):
                self.refused(InvalidOperation, journal.enter, value)
            if not (type(value) is int and value >= 0):
                self.refused_with(InvalidNumber, {"number": value}, journal.undo, value)
                self.refused_with(InvalidNumber, {"number": value}, journal.redo, value)
        for many in (4, 5, 10 ** 39):
            self.refused_with(NothingToUndo, {"many": many}, journal.undo, many)
        for many in (2, 3, 10 ** 39):
            self.refused_with(NothingToUndo, {"many": many}, journal.redo, many)
        self.assertEqual(self.state(journal), before)
        for name in ("log", "undone"):
            with self.assertRaises(AttributeError):
                setattr(journal, name, ())

    def test_what_a_step_is(self):
        for step in (
                ("a",), ("abcdefgh", ""), ("a", "\n"), ("a", 10 ** 39), ("a", -5, True, False, None), ("a", ((), (1, ("x",)))), ("a", nested(0, lambda value: (value,))),
                ("a", "Name", "x" * 10000)):
            self.assertTrue(is_step(step))
            journal = Journal()
            journal.enter(step)
            self.assert_same(journal.log, (step,))
        for value in (
                (), ("",), ("A",), ("ninelongs",), (1,), (None,), (("a",),), ["a"], "a", ("a", [1]), ("a", {}), ("a", ((1, [2]),)), ("a", (SHOP,)), ("a", SHOP),
                ("a", (1, {})), ("a b",), ("a1",), None, True, 0):
            self.assertFalse(is_step(value))
            self.refused(InvalidOperation, Journal().enter, value)

    def test_random_calls(self):
        dice = random.Random(111)
        for _ in range(30):
            journal, done, undone = Journal(), [], []
            for number in range(60):
                word, many = dice.choice(("enter", "undo", "redo")), dice.randint(0, 3)
                if word == "enter":
                    journal.enter(("step", number))
                    done, undone = done + [("step", number)], []
                elif word == "undo":
                    if many > len(done):
                        self.refused_with(NothingToUndo, {"many": many}, journal.undo, many)
                    else:
                        taken = [done.pop() for _ in range(many)]
                        undone = taken[::-1] + undone
                        self.assertEqual(journal.undo(many), tuple(taken))
                elif many > len(undone):
                    self.refused_with(NothingToUndo, {"many": many}, journal.redo, many)
                else:
                    taken, undone = undone[:many], undone[many:]
                    done += taken
                    self.assertEqual(journal.redo(many), tuple(taken))
                self.assertEqual(self.state(journal), (tuple(done), tuple(undone)))


if __name__ == "__main__":
    unittest.main()
