"""[6.1], [6.2]: coming back."""

import itertools
import random
import unittest

from goneunseen.base.bases import Base
from goneunseen.errors import InvalidBase, InvalidRow, NotGone, UnknownName
from goneunseen.scheme.schemes import Scheme
from goneunseen.scheme.tables import Table
from goneunseen.store.histories import run
from goneunseen.store.returns import is_hindrance, is_return, is_tight_return, return_paper
from tests.oracle import Model, picked, random_model, some_schemes
from tests.values import DAY, SHOP, Case, wrong_but, wrong_values

FUNCTIONS = (
    return_paper, lambda *at: is_return(*at, ()), lambda *at: is_tight_return(*at, ()), lambda *at: is_hindrance(*at, ()))
ITEM = ("back", "item", (5, 100))
ORDER = ("back", "order", (5, 3))
OTHER = ("back", "order", (5, 4))
BUYER = ("back", "buyer", (3, 30))
BROKEN = Base(SHOP, gone={"buyer": ((3, 30),), "order": ((5, 3), (5, 4)), "item": ((5, 100),)})


def model_of(base):
    model = Model(base.scheme)
    for name in base.scheme.names:
        model.living[name] = list(base.living(name))
        model.gone[name] = [row for row, many in base.gone(name).items() for _ in range(many)]
    return model


def brings_back(base, commands):
    """Whether a store with the base accepts the commands one after another."""
    model = model_of(base)
    for command in commands:
        if model.refusal(command) is not None:
            return False
        model.do(command)
    return True


def judged_return(base, name, row, commands):
    return (
        len(commands) > 0 and commands[-1] == ("back", name, row) and len(set(commands)) == len(commands)
        and brings_back(base, commands))


def judged_tight(base, name, row, commands):
    return judged_return(base, name, row, commands) and not any(
        judged_return(base, name, row, commands[:index] + commands[index + 1:]) for index in range(len(commands) - 1))


def can_come_back(base, name, row):
    """Whether some commands bring the row back: in the order of the tables, all that can come back may try."""
    for many in range(1, 5):
        gone = [("back", table, other) for table in base.scheme.names for other in base.gone(table)]
        for some in itertools.permutations(gone, many):
            if judged_return(base, name, row, some):
                return True
    return False


def judged_hindrance(base, name, row, entries):
    """Whether entries of the right form are a hindrance, as the document words it."""
    seen = set()
    for table, other, (word, what) in entries:
        if (table, other) in seen or base[table, other][1] == 0:
            return False
        key = base.scheme[table].key
        if word == "taken":
            same = picked(what, key) == picked(other, key) if key else what == other
            if not same or what not in base.living(table):
                return False
        else:
            columns, target = base.scheme[table].refers[what]
            def tells(one):
                return picked(one, base.scheme[target].key) == picked(other, columns)
            if any(tells(one) for one in base.living(target)):
                return False
            if not all((target, one) in seen for one in base.gone(target) if tells(one)):
                return False
        seen.add((table, other))
    return len(entries) > 0 and entries[-1][:2] == (name, row)


class Papers(Case):
    def check_paper(self, base, name, row):
        word, what = return_paper(base, name, row)
        if word == "back":
            self.assertTrue(judged_tight(base, name, row, what))
        else:
            self.assertEqual(word, "hindered")
            self.assertTrue(judged_hindrance(base, name, row, what))
        self.assertIs(is_return(base, name, row, what), word == "back")
        self.assertIs(is_tight_return(base, name, row, what), word == "back")
        self.assertIs(is_hindrance(base, name, row, what), word == "hindered")
        return word, what

    def test_the_rows_of_the_examples(self):
        for name in SHOP.names:
            for row in DAY.gone(name):
                self.check_paper(DAY, name, row)
        self.assertEqual(self.check_paper(DAY, "buyer", (3, 30)), ("back", (("back", "buyer", (3, 30)),)))
        self.assertEqual(
            self.check_paper(DAY, "order", (7, 3)), ("back", (("back", "buyer", (3, 30)), ("back", "order", (7, 3)))))
        self.assertEqual(self.check_paper(BROKEN, "item", (5, 100)), ("back", (BUYER, ORDER, ITEM)))
        self.assertEqual(self.check_paper(BROKEN, "order", (5, 4)), ("hindered", (("order", (5, 4), ("lacks", 0)),)))

    def test_hindrances_through_tables(self):
        base = Base(SHOP, gone={"order": ((5, 3), (5, 4), (5, 9)), "item": ((5, 100),)}, living={"buyer": ((1, 1),)})
        word, entries = self.check_paper(base, "item", (5, 100))
        self.assertEqual(word, "hindered")
        self.assertEqual(set(entries), {
            ("order", (5, 3), ("lacks", 0)), ("order", (5, 4), ("lacks", 0)), ("order", (5, 9), ("lacks", 0)),
            ("item", (5, 100), ("lacks", 0))})
        plain = Base(Scheme(Table("a", 1)), living={"a": ((1,),)}, gone={"a": ((1,), (2,))})
        self.assertEqual(self.check_paper(plain, "a", (1,)), ("hindered", (("a", (1,), ("taken", (1,))),)))
        self.assertEqual(self.check_paper(plain, "a", (2,)), ("back", (("back", "a", (2,)),)))

    def test_several_rows_serve_one_reference(self):
        scheme = SHOP.without(("all", "buyer"))
        base = Base(scheme, gone={"buyer": ((3, 30), (3, 40), (3, 30)), "order": ((5, 3),)})
        word, commands = self.check_paper(base, "order", (5, 3))
        self.assertEqual((word, len(commands)), ("back", 2))
        for buyer in ((3, 30), (3, 40)):
            commands = (("back", "buyer", buyer), ORDER)
            self.assertIs(is_return(base, "order", (5, 3), commands), True)
            self.assertIs(is_tight_return(base, "order", (5, 3), commands), True)

    def test_rows_that_are_hindered_are_passed_over(self):
        base = Base(SHOP, gone={"buyer": ((3, 30),), "order": ((5, 1), (5, 2), (5, 3), (5, 9)), "item": ((5, 100),)})
        self.assertEqual(self.check_paper(base, "item", (5, 100)), ("back", (BUYER, ORDER, ITEM)))

    def test_hindrances_through_four_tables(self):
        scheme = Scheme(
            Table("a", 1, key=(0,)), Table("b", 2, key=(0,), refers=(((1,), "a"),)),
            Table("c", 2, key=(0,), refers=(((1,), "b"),)), Table("d", 2, refers=(((0,), "c"), ((1,), "a"))))
        gone = {"b": ((1, 5), (1, 6), (2, 5)), "c": ((1, 1), (3, 1), (4, 2)), "d": ((1, 7), (3, 7), (4, 7))}
        base = Base(scheme, living={"a": ((7,),)}, gone=gone)
        self.assertEqual(self.check_paper(base, "d", (1, 7)), ("hindered", (
            ("b", (1, 5), ("lacks", 0)), ("b", (1, 6), ("lacks", 0)), ("c", (1, 1), ("lacks", 0)), ("d", (1, 7), ("lacks", 0)))))
        base = Base(scheme, living={"a": ((7,),)}, gone={**gone, "a": ((6,),)})
        self.assertEqual(
            self.check_paper(base, "d", (1, 7)),
            ("back", (("back", "a", (6,)), ("back", "b", (1, 6)), ("back", "c", (1, 1)), ("back", "d", (1, 7)))))

    def test_the_last_entry_is_for_the_row_of_the_table(self):
        scheme = Scheme(Table("a", 1), Table("b", 1))
        base = Base(scheme, living={"a": ((1,),), "b": ((1,),)}, gone={"a": ((1,), (2,)), "b": ((1,), (2,))})
        of_a, of_b = ("a", (1,), ("taken", (1,))), ("b", (1,), ("taken", (1,)))
        self.assertIs(is_hindrance(base, "a", (1,), (of_a,)), True)
        self.assertIs(is_hindrance(base, "a", (1,), (of_b,)), False)
        self.assertIs(is_hindrance(base, "a", (1,), (of_b, of_a)), True)
        self.assertIs(is_hindrance(base, "a", (1,), (of_a, of_b)), False)
        self.assertIs(is_return(base, "a", (2,), (("back", "b", (2,)),)), False)
        self.assertIs(is_return(base, "a", (2,), (("back", "a", (2,)),)), True)

    def test_two_references_to_one_target(self):
        scheme = Scheme(
            Table("a", 1, key=(0,)), Table("b", 2, key=(0,), refers=(((0,), "a"), ((1,), "a"))),
            Table("c", 2, refers=(((0,), "b"), ((1,), "a"))))
        base = Base(scheme, gone={"a": ((1,), (2,), (3,)), "b": ((1, 2), (2, 2), (2, 9)), "c": ((1, 2), (2, 2), (2, 3))})
        self.assertEqual(len(self.check_paper(base, "b", (1, 2))[1]), 3)
        self.assertEqual(len(self.check_paper(base, "b", (2, 2))[1]), 2)
        self.assertEqual(len(self.check_paper(base, "c", (1, 2))[1]), 4)
        self.assertEqual(len(self.check_paper(base, "c", (2, 3))[1]), 4)
        word, entries = self.check_paper(base, "b", (2, 9))
        self.assertEqual(entries[-1], ("b", (2, 9), ("lacks", 1)))

    def test_bases_behind_random_commands(self):
        dice = random.Random(23)
        words = []
        for scheme in some_schemes():
            for _ in range(60):
                _, done = random_model(dice, scheme, dice.choice((15, 40, 120)))
                base = run(scheme, done)
                for name in scheme.names:
                    for row in base.gone(name):
                        words.append(self.check_paper(base, name, row)[0])
        self.assertGreater(words.count("back"), 100)
        self.assertGreater(words.count("hindered"), 100)

    def test_returns_exist_or_hindrances(self):
        dice = random.Random(29)
        for scheme in some_schemes()[:4]:
            for _ in range(25):
                _, done = random_model(dice, scheme, 25)
                base = run(scheme, done)
                gone = [(name, row) for name in scheme.names for row in base.gone(name)]
                for name, row in gone if len(gone) <= 5 else []:
                    word, what = return_paper(base, name, row)
                    if word == "hindered" or len(what) <= 4:
                        self.assertIs(word == "back", can_come_back(base, name, row))

    def test_many_gone_rows(self):
        keys = tuple((1, number) for number in range(33))
        base = Base(
            Scheme(Table("a", 2, key=(0,)), Table("b", 2, key=(0,), refers=(((0,), "a"),)), Table("c", 2, refers=(((0,), "b"),))),
            gone={"a": keys, "b": keys, "c": keys})
        self.assertEqual(len(self.check_paper(base, "c", (1, 7))[1]), 3)
        blocked = Base(base.scheme, gone={"b": keys, "c": keys})
        self.assertEqual(len(self.check_paper(blocked, "c", (1, 7))[1]), 34)


class Judges(Case):
    def test_wrong_arguments(self):
        for call in FUNCTIONS:
            for value in wrong_but(DAY):
                self.refused(InvalidBase, call, value, "buyer", (3, 30))
                self.refused(InvalidBase, call, value, value, value)
            for value in wrong_but("buyer"):
                self.refused_with(UnknownName, {"word": value}, call, DAY, value, (3, 30))
                self.refused_with(UnknownName, {"word": value}, call, DAY, value, value)
            for value in wrong_but((1, 10), (0, 0), (1, 0)):
                self.refused(InvalidRow, call, DAY, "buyer", value)
            for row in ((1, 10), (0, 0), (30, 3)):
                self.refused_with(NotGone, {"row": row}, call, DAY, "buyer", row)

    def test_judges_take_every_value(self):
        for judge in (is_return, is_tight_return, is_hindrance):
            for value in wrong_values():
                self.assertIs(judge(BROKEN, "item", (5, 100), value), False)
                self.assertIs(judge(BROKEN, "item", (5, 100), (value,)), False)
                self.assertIs(judge(BROKEN, "item", (5, 100), (value, ITEM)), False)
                self.assertIs(judge(BROKEN, "item", (5, 100), (BUYER, ORDER, value)), False)
        for value in wrong_values():
            for entry in ((value, (5, 100), ("lacks", 0)), ("item", value, ("lacks", 0)), ("item", (5, 100), value)):
                self.assertIs(is_hindrance(BROKEN, "item", (5, 100), (entry,)), False)
            if type(value) is not int or value != 0:
                self.assertIs(is_hindrance(BROKEN, "order", (5, 4), (("order", (5, 4), ("lacks", value)),)), False)
            self.assertIs(is_hindrance(BROKEN, "order", (5, 4), (("order", (5, 4), (value, 0)),)), False)
            self.assertIs(is_hindrance(DAY, "order", (5, 3), (("order", (5, 3), ("taken", value)),)), False)

    def judge(self, commands, is_one, is_tight):
        self.assertIs(is_return(BROKEN, "item", (5, 100), commands), is_one)
        self.assertIs(is_tight_return(BROKEN, "item", (5, 100), commands), is_tight)

    def test_returns(self):
        more = Base(BROKEN.scheme, gone={**{name: tuple(BROKEN.gone(name)) for name in SHOP.names}, "buyer": ((3, 30), (8, 80))})
        self.judge((BUYER, ORDER, ITEM), True, True)
        for commands in (
                (), (ITEM,), (ORDER, ITEM), (BUYER, ITEM), (ORDER, BUYER, ITEM), (BUYER, ORDER), (BUYER, ORDER, ITEM, ITEM),
                (BUYER, BUYER, ORDER, ITEM), (BUYER, OTHER, ITEM), [BUYER, ORDER, ITEM], (BUYER, ITEM, ORDER),
                (BUYER, ORDER, ("put", "item", (5, 100))), (BUYER, ORDER, list(ITEM)), (BUYER, ORDER, ("take", "order", (5, 3)), ITEM),
                (BUYER, ORDER, ("back", "item", (5, 200))), (("put", "buyer", (9, 9)), BUYER, ORDER, ITEM),
                (("purge", "order", (5, 4)), BUYER, ORDER, ITEM)):
            self.judge(commands, False, False)
        spare = ("back", "buyer", (8, 80))
        for commands in ((spare, BUYER, ORDER, ITEM), (BUYER, spare, ORDER, ITEM), (BUYER, ORDER, spare, ITEM)):
            self.assertIs(is_return(more, "item", (5, 100), commands), True)
            self.assertIs(is_tight_return(more, "item", (5, 100), commands), False)
        self.assertIs(is_return(more, "item", (5, 100), (BUYER, ORDER, ITEM, spare)), False)
        for word in ("put", "take", "purge"):
            for row in ((8, 80), (3, 30), (9, 90)):
                self.assertIs(is_return(more, "item", (5, 100), ((word, "buyer", row), BUYER, ORDER, ITEM)), False)
                self.assertIs(is_tight_return(more, "item", (5, 100), (BUYER, ORDER, (word, "buyer", row), ITEM)), False)
        for other in (("back", "nosuch", (8, 80)), ("back", "buyer", (8,)), ("back", "buyer", (8, 80, 0)), ("back", "buyer", (8, 81))):
            self.assertIs(is_return(more, "item", (5, 100), (other, BUYER, ORDER, ITEM)), False)
            self.assertIs(is_tight_return(more, "item", (5, 100), (BUYER, ORDER, other, ITEM)), False)
        living = Base(SHOP, living={"buyer": ((3, 30),)}, gone={"order": ((5, 3),)})
        self.assertIs(is_return(living, "order", (5, 3), (ORDER,)), True)
        self.assertIs(is_return(living, "order", (5, 3), (BUYER, ORDER)), False)

    def test_copies_of_the_same_row_come_back_once(self):
        base = Base(Scheme(Table("a", 1)), gone={"a": ((1,), (1,), (2,))})
        back = ("back", "a", (1,))
        self.assertIs(is_return(base, "a", (1,), (back,)), True)
        self.assertIs(is_return(base, "a", (1,), (back, back)), False)
        self.assertIs(is_return(base, "a", (1,), (("back", "a", (True,)),)), False)
        self.assertIs(is_tight_return(base, "a", (1,), (back,)), True)
        self.assertIs(is_return(base, "a", (1,), (("back", "a", (2,)), back)), True)
        self.assertIs(is_tight_return(base, "a", (1,), (("back", "a", (2,)), back)), False)

    def test_hindrances(self):
        taken = ("order", (5, 3), ("taken", (5, 1)))
        self.assertIs(is_hindrance(DAY, "order", (5, 3), (taken,)), True)
        for entry in (
                ("order", (5, 3), ("taken", (5, 3))), ("order", (5, 3), ("taken", (6, 2))), ("order", (5, 3), ("taken", (5, True))),
                ("order", (5, 3), ("taken", [5, 1])), ("order", (5, 3), ("taken", (5, 1), 1)), ("order", (5, 3), ["taken", (5, 1)]),
                ("order", (5, 3), ("lacks", 0)), ("order", (5, 3), ("Taken", (5, 1))), ("order", (5, 3), ("taken",)),
                ("order", (5, 3)), ["order", (5, 3), ("taken", (5, 1))], ("order", (5, 1), ("taken", (5, 1)))):
            self.assertIs(is_hindrance(DAY, "order", (5, 3), (entry,)), False)
            self.assertIs(is_hindrance(DAY, "order", (5, 3), (entry, taken)), False)
        self.assertIs(is_hindrance(DAY, "order", (5, 3), (taken, taken)), False)
        self.assertIs(is_hindrance(DAY, "order", (5, 3), [taken]), False)
        self.assertIs(is_hindrance(DAY, "order", (5, 3), ()), False)
        self.assertIs(is_hindrance(DAY, "item", (5, 200), (taken,)), False)

    def test_hindrances_in_any_order_that_is_right(self):
        base = Base(SHOP, gone={"order": ((5, 3), (5, 4)), "item": ((5, 100), (6, 1))})
        one, two = ("order", (5, 3), ("lacks", 0)), ("order", (5, 4), ("lacks", 0))
        last, spare = ("item", (5, 100), ("lacks", 0)), ("item", (6, 1), ("lacks", 0))
        for entries in ((one, two, last), (two, one, last), (spare, one, two, last), (one, spare, two, last)):
            self.assertIs(is_hindrance(base, "item", (5, 100), entries), True)
        for entries in (
                (one, last), (last,), (last, one, two), (one, two, last, spare), (one, two, spare), (one, one, two, last),
                (one, last, two), (one, two, ("item", (5, 100), ("lacks", 1))), (one, two, ("item", (5, 100), ("lacks", -1))),
                (one, two, ("item", (5, 100), ("lacks", False))), (one, two, ("item", (5, 100), ("taken", (5, 100))))):
            self.assertIs(is_hindrance(base, "item", (5, 100), entries), False)

    def test_random_values(self):
        dice = random.Random(31)
        found = []
        for scheme in some_schemes():
            for _ in range(25):
                _, done = random_model(dice, scheme, 40)
                base = run(scheme, done)
                gone = [(name, row) for name in scheme.names for row in base.gone(name)]
                for name, row in gone:
                    for _ in range(8):
                        picks = [dice.choice(gone) for _ in range(dice.choice((0, 0, 0, 1, 1, 2, 4)))] + [(name, row)]
                        commands = tuple(("back", *pair) for pair in picks)
                        right = judged_return(base, name, row, commands)
                        self.assertIs(is_return(base, name, row, commands), right)
                        self.assertIs(is_tight_return(base, name, row, commands), judged_tight(base, name, row, commands))
                        entries = tuple((*pair, self.some_reason(dice, base, *pair)) for pair in picks)
                        hinders = judged_hindrance(base, name, row, entries)
                        self.assertIs(is_hindrance(base, name, row, entries), hinders)
                        found.append((right, hinders))
        self.assertGreater(found.count((True, False)), 50)
        self.assertGreater(found.count((False, True)), 50)
        self.assertEqual(found.count((True, True)), 0)

    def test_long_returns(self):
        dice = random.Random(37)
        found = []
        for scheme in some_schemes():
            for _ in range(40):
                base = run(scheme, random_model(dice, scheme, 60)[1])
                if dice.random() < 0.5:
                    base = Base(scheme, gone={name: base.living(name) + tuple(base.gone(name)) for name in scheme.names})
                gone = [(name, row) for name in scheme.names for row in base.gone(name)]
                for name, row in gone[-4:]:
                    # All that is accepted one after another, and what is left of it without some commands.
                    commands = ()
                    for pair in [pair for pair in gone if dice.random() < 0.8 and pair != (name, row)] + [(name, row)]:
                        if brings_back(base, commands + (("back", *pair),)):
                            commands += (("back", *pair),)
                    word, what = return_paper(base, name, row)
                    less = [tuple(command for command in commands if dice.random() < 0.8) for _ in range(3)]
                    for some in [commands, *less] + [what] * (word == "back"):
                        right, tight = judged_return(base, name, row, some), judged_tight(base, name, row, some)
                        self.assertIs(is_return(base, name, row, some), right)
                        self.assertIs(is_tight_return(base, name, row, some), tight)
                        found.append((right, tight, len(some) > 2))
        self.assertGreater(found.count((True, True, True)), 10)
        self.assertGreater(found.count((True, False, True)), 50)
        self.assertGreater(found.count((False, False, True)), 50)

    def test_a_hundred_rows_come_back(self):
        scheme = Scheme(
            Table("a", 2, key=(0,)), Table("b", 2, key=(0,), refers=(((1,), "a"),)),
            Table("c", 2, key=(0,), refers=(((1,), "b"),)), Table("d", 2, refers=(((0,), "c"), ((1,), "c"))))
        rows = tuple((number, number) for number in range(25))
        base = Base(scheme, gone={name: rows for name in "abcd"})
        commands = tuple(("back", name, row) for name in "abcd" for row in rows)
        self.assertIs(is_return(base, "d", (24, 24), commands), True)
        self.assertIs(is_tight_return(base, "d", (24, 24), commands), False)
        self.assertIs(is_return(base, "d", (24, 24), commands[1:]), False)
        self.assertIs(is_tight_return(base, "d", (24, 24), commands[24::25]), True)
        self.assertEqual(return_paper(base, "d", (7, 7)), ("back", commands[7::25]))

    def some_reason(self, dice, base, name, row):
        references = len(base.scheme[name].refers)
        if references and dice.random() < 0.5:
            return "lacks", dice.randrange(references)
        key = base.scheme[name].key
        same = [other for other in base.living(name) if key and picked(other, key) == picked(row, key)]
        return "taken", dice.choice(same or [row, *base.living(name)])


if __name__ == "__main__":
    unittest.main()
