"""[5.1]: histories."""

import random
import unittest

from goneunseen.base.bases import Base
from goneunseen.errors import (
    GoneError, InvalidBase, InvalidHistory, InvalidRow, InvalidScheme, KeyTaken, Missing, NotGone, NotLiving, Referred,
    Stopped, TooMany, UnknownName)
from goneunseen.scheme.schemes import Scheme
from goneunseen.scheme.tables import Table
from goneunseen.store.histories import history_to, is_history, is_history_to, run, steps
from tests.oracle import Model, random_command, random_model, some_schemes
from tests.values import DAY, SHOP, Case, wrong_but, wrong_values

PLAIN = Scheme(Table("a", 1), Table("b", 2))
PUT, TAKE, BACK = ("put", "a", (1,)), ("take", "a", (1,)), ("back", "a", (1,))
LONG = (PUT,) + (TAKE, BACK) * 1000


class Runs(Case):
    def test_run_and_steps(self):
        some = (PUT, ("put", "b", (1, 2)), TAKE, ("purge", "a", (1,)))
        bases = list(steps(PLAIN, some))
        self.assertEqual(bases, [
            Base(PLAIN, living={"a": ((1,),)}), Base(PLAIN, living={"a": ((1,),), "b": ((1, 2),)}),
            Base(PLAIN, living={"b": ((1, 2),)}, gone={"a": ((1,),)}), Base(PLAIN, living={"b": ((1, 2),)})])
        self.assertEqual(run(PLAIN, some), bases[-1])
        self.assertEqual(run(PLAIN, ()), Base.empty(PLAIN))
        self.assertEqual(list(steps(PLAIN, ())), [])

    def test_steps_is_a_generator(self):
        found = steps(PLAIN, (PUT, TAKE, TAKE, PUT))
        self.assertIs(iter(found), found)
        self.assertEqual(next(found).size, 1)
        self.assertEqual(next(found).gone("a"), {(1,): 1})
        self.refused_with(Stopped, {"index": 2}, next, found)
        self.assertEqual(list(found), [])

    def test_errors_of_steps_come_with_the_first_result(self):
        for value in wrong_but(SHOP):
            found = steps(value, value)
            self.refused(InvalidScheme, next, found)
        for value in wrong_but(()):
            found = steps(SHOP, value)
            self.refused(InvalidHistory, next, found)
        found = steps(PLAIN, (TAKE,))
        self.refused_with(Stopped, {"index": 0}, next, found)
        found = steps(PLAIN, (PUT, ("put", "a", (True,))))
        self.refused(InvalidHistory, next, found)

    def test_wrong_arguments(self):
        for value in wrong_but(SHOP):
            self.refused(InvalidScheme, run, value, ())
            self.refused(InvalidScheme, run, value, value)
            self.refused(InvalidScheme, is_history, value, ())
            self.refused(InvalidScheme, is_history, value, value)
        for value in wrong_but(()):
            self.refused(InvalidHistory, run, SHOP, value)
        for value in wrong_values():
            self.refused(InvalidHistory, run, SHOP, (value,))
            self.refused(InvalidHistory, run, SHOP, (("take", "buyer", (1, 10)), value))
        self.refused(InvalidHistory, run, SHOP, [("put", "buyer", (1, 10))])
        self.refused(InvalidHistory, run, PLAIN, (["put", "a", (1,)],))

    def test_the_first_refused_command_stops(self):
        start = (("put", "buyer", (1, 10)), ("put", "order", (5, 1)))
        for command, error in (
                (("put", "buyer", (1, 20)), KeyTaken), (("put", "order", (6, 2)), Missing), (("put", "nosuch", (1,)), UnknownName),
                (("put", "buyer", (1,)), InvalidRow), (("take", "buyer", (2, 2)), NotLiving), (("take", "buyer", (1, 10)), Referred),
                (("back", "buyer", (1, 10)), NotGone), (("purge", "buyer", (1, 10)), NotGone)):
            raised = self.refused(Stopped, run, SHOP, start + (command, command))
            self.assert_same(raised.index, 2)
            self.assertIs(type(raised.__cause__), error)
            self.assertIs(is_history(SHOP, start + (command,)), False)
            raised = self.refused(Stopped, lambda: list(steps(SHOP, start + (command,))))
            self.assert_same(raised.index, 2)
            self.assertIs(type(raised.__cause__), error)
        raised = self.refused(Stopped, run, SHOP, start + (("put", "order", (6, 7)),))
        self.assertEqual(vars(raised.__cause__), {"table": "buyer", "wanted": (7,)})

    def test_too_many_rows_stop(self):
        puts = tuple(("put", "a", (number,)) for number in range(101))
        self.assertEqual(run(PLAIN, puts[:100]).size, 100)
        raised = self.refused(Stopped, run, PLAIN, puts)
        self.assert_same(raised.index, 100)
        self.assertIsInstance(raised.__cause__, TooMany)
        self.assertIs(is_history(PLAIN, puts), False)

    def test_histories_have_at_most_2000_commands(self):
        self.assertEqual(run(PLAIN, LONG[:2000]).gone("a"), {(1,): 1})
        self.assertEqual(len(list(steps(PLAIN, LONG[:2000]))), 2000)
        self.assertIs(is_history(PLAIN, LONG[:2000]), True)
        self.assertIs(is_history(PLAIN, LONG[:2001]), False)
        self.refused(InvalidHistory, run, PLAIN, LONG[:2001])
        found = steps(PLAIN, LONG[:2001])
        self.refused(InvalidHistory, next, found)
        self.assertIs(is_history_to(run(PLAIN, LONG[:2000]), LONG[:2000]), True)
        self.assertIs(is_history_to(run(PLAIN, LONG[:1]), LONG[:2001]), False)

    def test_long_histories(self):
        dice = random.Random(19)
        for scheme in some_schemes():
            for span in (1, 4):
                model, done = random_model(dice, scheme, 6000, span)
                history = done[:2000]
                self.assertIs(is_history(scheme, history), True)
                model, at = Model(scheme), -1
                for at, base in enumerate(steps(scheme, history)):
                    model.do(history[at])
                    if at < 50 or at > len(history) - 50:
                        self.assertTrue(model.agrees(base))
                        self.assertEqual(base, run(scheme, history[:at + 1]))
                        self.assertIs(is_history_to(base, history[:at + 1]), True)
                self.assertEqual(at, len(history) - 1)
                for _ in range(30):
                    command = random_command(dice, scheme, span)
                    refusal = model.refusal(command)
                    self.assertIs(is_history(scheme, history[:1999] + (command,)), model_accepts(scheme, history[:1999], command))
                    if refusal is not None and len(history) < 2000:
                        raised = self.refused(Stopped, run, scheme, history + (command,))
                        self.assert_same(raised.index, len(history))
                        self.assertIs(type(raised.__cause__), refusal[0])

    def test_bases_that_were_told_do_not_change(self):
        dice = random.Random(20)
        for scheme in some_schemes():
            _, history = random_model(dice, scheme, 200)
            told = []
            for base in steps(scheme, history):
                told.append((base, {name: (base.living(name), base.gone(name)) for name in scheme.names}))
            for at, (base, rows) in enumerate(told):
                self.assertEqual({name: (base.living(name), base.gone(name)) for name in scheme.names}, rows)
                self.assertEqual(base, run(scheme, history[:at + 1]))

    def test_is_history_takes_every_value(self):
        self.assertIs(is_history(SHOP, ()), True)
        self.assertIs(is_history(PLAIN, (PUT, TAKE)), True)
        for value in (None, [PUT], [PUT, TAKE], (TAKE,), (("put", "a", (True,)),), ((PUT,),), PUT, (PUT, PUT), (("put", "a", (1, 1)),)):
            self.assertIs(is_history(PLAIN, value), False)
        for value in wrong_but(()):
            self.assertIs(is_history(SHOP, value), False)


def model_accepts(scheme, history, command):
    model = Model(scheme)
    for one in history:
        model.do(one)
    return model.refusal(command) is None


class HistoriesTo(Case):
    def leads(self, base):
        history = history_to(base)
        copies = sum(sum(base.gone(name).values()) for name in base.scheme.names)
        living = sum(len(base.living(name)) for name in base.scheme.names)
        self.assertIsInstance(history, tuple)
        self.assertLessEqual(len(history), 20 * copies + living)
        self.assertLessEqual(len(history), 2000)
        self.assertEqual(run(base.scheme, history), base)
        self.assertIs(is_history_to(base, history), True)
        return history

    def test_the_examples(self):
        self.leads(DAY)
        self.assertEqual(self.leads(Base.empty(SHOP)), ())
        self.leads(DAY.alive())
        self.leads(Base(SHOP, gone={"item": ((5, 1), (5, 1)), "order": ((5, 1), (5, 2)), "buyer": ((0, 0), (1, 1), (2, 2))}))

    def test_bases_behind_random_commands(self):
        dice = random.Random(5)
        for scheme in some_schemes():
            for _ in range(40):
                model, done = random_model(dice, scheme, dice.choice((20, 80, 200)))
                if model.size <= 60:
                    base = run(scheme, done)
                    self.assertTrue(model.agrees(base))
                    self.assertIs(is_history_to(base, done), True)
                    self.leads(base)

    def test_bases_with_references_through_all_tables(self):
        chain = Scheme(
            Table("a", 1, key=(0,), scope="all"), Table("b", 2, key=(0,), scope="all", refers=(((1,), "a"),)),
            Table("c", 2, key=(0,), scope="all", refers=(((1,), "b"),)), Table("d", 2, refers=(((0,), "c"), ((1,), "c"))))
        broad = Scheme(
            Table("a", 1, key=(0,), scope="all"), Table("b", 3, key=(0,), scope="all", refers=(((0,), "a"), ((1,), "a"))),
            Table("c", 3, key=(0, 1), scope="all"), Table("d", 4, key=(3,), scope="all", refers=(((0,), "b"), ((1,), "b"))))
        for number in range(1, 16):
            gone = {"a": ((number,), (0,)), "b": ((0, 1), (1, 2), (number + 1, 3)), "c": ((1, 1), (2, 2)), "d": ((1, 2), (3, 4))}
            self.leads(Base(chain, gone=gone))
        worst = Scheme(
            Table("a", 1, key=(0,)), Table("b", 1, key=(0,), refers=(((0,), "a"),)),
            Table("c", 1, key=(0,), refers=(((0,), "b"),)), Table("d", 2, refers=(((0,), "c"), ((1,), "c"))))
        self.leads(Base(worst, gone={"d": tuple((number, number + 100) for number in range(60))}))
        self.leads(Base(worst, gone={"d": ((1, 2),) * 20, "c": ((1,),) * 20, "b": ((1,),) * 10, "a": ((2,),) * 10}))
        self.leads(Base(broad, gone={
            "a": tuple((number,) for number in range(15)), "b": tuple((number, 50, 0) for number in range(15)),
            "c": tuple((number, 50, 0) for number in range(15)), "d": tuple((1, 2, 0, number) for number in range(15))}))
        self.leads(Base(
            broad, living={"a": ((0,), (1,), (2,)), "b": ((1, 0, 5), (2, 1, 5)), "d": ((1, 2, 9, 9), (2, 2, 9, 8))},
            gone={"a": ((3,),), "b": ((3, 0, 0),), "d": ((1, 2, 9, 7), (7, 7, 7, 1))}))

    def test_each_shape_of_four_references(self):
        dice = random.Random(13)
        names = ("a", "b", "c", "d")
        for _ in range(120):
            tables, left = [], 4
            for place, name in enumerate(names):
                pairs = {}
                for _ in range(min(left, dice.randint(0, 4)) if place else 0):
                    pairs[(dice.randint(0, 3),), dice.choice(names[:place])] = True
                left -= len(pairs)
                tables.append(Table(name, 4, key=(dice.randint(0, 3),), scope=dice.choice(("all", "living")), refers=tuple(pairs)))
            gone = {}
            for table in tables:
                rows = {}
                for _ in range(8):
                    row = tuple(dice.randint(-9, 9) for _ in range(4))
                    rows[table.key_of(row)] = row
                gone[table.name] = tuple(rows.values())
            self.leads(Base(Scheme(*tables), gone=gone))

    def test_a_gone_row_of_a_referred_table_does_not_hinder(self):
        base = Base(SHOP, gone={"buyer": ((3, 30), (4, 40)), "order": ((5, 3), (5, 3), (6, 4)), "item": ((5, 1), (6, 1))})
        self.leads(base)

    def test_at_most_sixty_rows(self):
        rows = tuple((number,) for number in range(61))
        self.leads(Base(PLAIN, living={"a": rows[:60]}))
        self.leads(Base(PLAIN, gone={"a": ((1,),) * 60}))
        self.leads(Base(PLAIN, living={"a": rows[:30]}, gone={"a": ((1,),) * 30}))
        for base in (
                Base(PLAIN, living={"a": rows}), Base(PLAIN, gone={"a": ((1,),) * 61}),
                Base(PLAIN, living={"a": rows[:31]}, gone={"a": ((1,),) * 30})):
            self.refused_with(TooMany, {"limit": 60}, history_to, base)
        puts = tuple(("put", "a", row) for row in rows)
        self.assertIs(is_history_to(Base(PLAIN, living={"a": rows}), puts), True)

    def test_wrong_arguments(self):
        for value in wrong_but(DAY):
            self.refused(InvalidBase, history_to, value)
            self.refused(InvalidBase, is_history_to, value, ())
            self.refused(InvalidBase, is_history_to, value, value)

    def test_histories_to_a_base_by_anybody(self):
        base = run(PLAIN, (PUT, TAKE))
        self.assertIs(is_history_to(base, (PUT, TAKE)), True)
        self.assertIs(is_history_to(base, (PUT, TAKE, BACK, TAKE)), True)
        self.assertIs(is_history_to(base, (("put", "b", (0, 0)), PUT, TAKE, ("take", "b", (0, 0)), ("purge", "b", (0, 0)))), True)
        for value in ((), (PUT,), (TAKE,), (PUT, TAKE, TAKE), [PUT, TAKE], (PUT, TAKE, PUT, TAKE), (PUT, TAKE, ("put", "b", (0, 0)))):
            self.assertIs(is_history_to(base, value), False)
        for value in wrong_values():
            self.assertIs(is_history_to(base, value), False)
            self.assertIs(is_history_to(base, (PUT, TAKE, value)), False)
        self.assertIs(is_history_to(Base.empty(PLAIN), ()), True)
        self.assertIs(is_history_to(Base.empty(PLAIN), None), False)

    def test_random_values_as_histories(self):
        dice = random.Random(17)
        for scheme in some_schemes():
            for _ in range(60):
                model, done = random_model(dice, scheme, 12)
                more = done + (random_command(dice, scheme),)
                accepted = model.refusal(more[-1]) is None
                self.assertIs(is_history(scheme, more), accepted)
                if not accepted:
                    raised = self.refused(Stopped, run, scheme, more)
                    self.assert_same(raised.index, len(done))
                    self.assertIsInstance(raised.__cause__, (GoneError, UnknownName, TooMany))


if __name__ == "__main__":
    unittest.main()
