"""Stage 9: tallies."""

import random
import unittest
from collections import Counter

from goneunseen.ask.tallies import Tally
from goneunseen.errors import InvalidOperation, InvalidTally
from tests.values import GREAT, TOO_GREAT, Case, wrong_but, wrong_values

MOST = 10 ** 40 - 1
TOLD = Tally({(20, 100): 2, (10, 100): 1, (10, -1): 3})


def is_answer(value):
    return isinstance(value, tuple) and len(value) <= 4 and all(type(part) is int and -TOO_GREAT < part < TOO_GREAT for part in value)


def is_count(value):
    return type(value) is int and 0 <= value <= MOST


def is_counts(value):
    if value is None:
        return True
    return isinstance(value, dict) and all(is_answer(answer) and is_count(value[answer]) for answer in value)


class Tallies(Case):
    def test_numbers(self):
        self.assert_same([TOLD[20, 100], TOLD[10, 100], TOLD[10, -1]], [2, 1, 3])
        self.assert_same(TOLD[10, 101], 0)
        self.assert_same(Tally({(): 5})[()], 5)
        for value in wrong_but((20, 100)):
            self.assert_same(TOLD[value], 0)
        ones = Tally({(1,): 4, (0,): 5})
        for value in ((True,), (False,), [1], 1, (1, 1), ((1,),), ("1",), (TOO_GREAT,), {(1,): 4}):
            self.assert_same(ones[value], 0)
        self.assert_same(ones[1,], 4)

    def test_length_truth_and_order(self):
        self.assertEqual(len(TOLD), 3)
        self.assertIs(bool(TOLD), True)
        self.assertEqual(list(TOLD), [(10, -1), (10, 100), (20, 100)])
        self.assert_same(TOLD.listed, ((10, -1), (10, 100), (20, 100)))
        self.assertEqual(TOLD.total, 6)
        for empty in (Tally(), Tally(None), Tally({}), Tally({(1,): 0})):
            self.assertEqual([len(empty), bool(empty), list(empty), empty.listed, empty.total, str(empty)], [0, False, [], (), 0, "none"])
            self.assertEqual(empty, Tally())

    def test_answers_with_0_are_left_out(self):
        told = Tally({(1,): 0, (2,): 3, (3,): 0})
        self.assertEqual(told, Tally({(2,): 3}))
        self.assertEqual([len(told), list(told), told[1,], (1,) in told], [1, [(2,)], 0, False])
        self.refused(InvalidTally, Tally, {(1,): 0, (2, 2): 3})
        self.refused(InvalidTally, Tally, {(1,): 0, (): 0})

    def test_answers_of_one_length_up_to_4(self):
        for many in range(5):
            self.assertEqual(list(Tally({(7,) * many: 1, (8,) * many: 1})), [(7,) * many, (8,) * many][:1 if many == 0 else 2])
        self.refused(InvalidTally, Tally, {(1,) * 5: 1})
        self.refused(InvalidTally, Tally, {(1,): 1, (1, 1): 1})
        self.refused(InvalidTally, Tally, {(): 1, (1,): 1})

    def test_twenty_and_forty_digits(self):
        told = Tally({(GREAT, -GREAT): MOST})
        self.assert_same(told[GREAT, -GREAT], MOST)
        for answer in ((TOO_GREAT,), (-TOO_GREAT,), (1, TOO_GREAT)):
            self.refused(InvalidTally, Tally, {answer: 1})
            self.refused(InvalidTally, Tally, {answer: 0})
        self.refused(InvalidTally, Tally, {(1,): MOST + 1})
        self.refused(InvalidTally, Tally, {(1,): -1})
        self.refused(InvalidTally, Tally, {(1,): 1, (2,): MOST + 1})

    def test_wrong_arguments(self):
        for value in wrong_values():
            if not is_counts(value):
                self.refused(InvalidTally, Tally, value)
            if not is_count(value):
                self.refused(InvalidTally, Tally, {(1,): value})
                self.refused(InvalidTally, Tally, {(0,): 2, (1,): value})
            if not is_answer(value):
                try:
                    counts = {value: 1}
                except TypeError:
                    continue
                self.refused(InvalidTally, Tally, counts)
        for counts in ({(True,): 1}, {(1,): True}, {(1, False): 1}, {1: 1}, {"a": 1}, {(1.5,): 1}, [((1,), 1)], TOLD, (((1,), 1),)):
            self.refused(InvalidTally, Tally, counts)

    def test_in(self):
        for answer in TOLD:
            self.assertIs(answer in TOLD, True)
        self.assertIs((10, 1) in TOLD, False)
        self.assertIs((True,) in Tally({(1,): 1}), False)
        for value in wrong_but((20, 100)):
            self.assertIs(value in TOLD, False)
            self.assertIs(value in Tally(), False)

    def test_equality(self):
        self.assertTrue(TOLD == Tally({(10, -1): 3, (10, 100): 1, (20, 100): 2}))
        self.assertFalse(TOLD != Tally({(10, -1): 3, (10, 100): 1, (20, 100): 2, (0, 0): 0}))
        for other in (Tally(), Tally({(10, -1): 3, (10, 100): 1}), Tally({(10, -1): 3, (10, 100): 1, (20, 100): 1}), TOLD + TOLD):
            self.assertTrue(TOLD != other)
            self.assertFalse(TOLD == other)
        self.assert_unlike_all(TOLD)
        self.assertFalse(Tally({(1,): 1}) == {(1,): 1})

    def test_sums(self):
        other = Tally({(10, -1): 1, (0, 0): 5})
        self.assertEqual(TOLD + other, Tally({(20, 100): 2, (10, 100): 1, (10, -1): 4, (0, 0): 5}))
        self.assertEqual(other + TOLD, TOLD + other)
        self.assertEqual(list(other + TOLD), [(0, 0), (10, -1), (10, 100), (20, 100)])
        self.assertEqual(TOLD + Tally(), TOLD)
        self.assertEqual(Tally() + TOLD, TOLD)
        self.assertEqual(Tally() + Tally(), Tally())

    def test_differences(self):
        self.assertEqual(TOLD - Tally({(10, -1): 1, (10, 100): 1}), Tally({(20, 100): 2, (10, -1): 2}))
        self.assertEqual(TOLD - TOLD, Tally())
        self.assertEqual(TOLD - Tally(), TOLD)
        self.assertEqual(list(TOLD - Tally({(10, 100): 1})), [(10, -1), (20, 100)])
        for other in (Tally({(10, -1): 4}), Tally({(0, 0): 1}), TOLD + Tally({(10, 100): 1}), 2 * TOLD):
            self.refused(InvalidOperation, lambda: TOLD - other)
        self.refused(InvalidOperation, lambda: Tally() - TOLD)

    def test_products(self):
        self.assertEqual(3 * TOLD, Tally({(20, 100): 6, (10, 100): 3, (10, -1): 9}))
        self.assertEqual(TOLD * 3, 3 * TOLD)
        self.assertEqual(1 * TOLD, TOLD)
        self.assertEqual([0 * TOLD, TOLD * 0], [Tally(), Tally()])
        self.assertEqual(5 * Tally(), Tally())
        for value in wrong_values():
            if not (type(value) is int and value >= 0):
                self.refused(InvalidOperation, lambda: TOLD * value)
                self.refused(InvalidOperation, lambda: value * TOLD)
        for value in (-1, True, False, None, "ab", (1,), [1], TOLD, {}):
            self.refused(InvalidOperation, lambda: TOLD * value)
            self.refused(InvalidOperation, lambda: value * TOLD)
            self.refused(InvalidOperation, lambda: Tally() * value)

    def test_within(self):
        self.assertIs(TOLD.within(TOLD), True)
        self.assertIs(TOLD.within(TOLD + TOLD), True)
        self.assertIs(Tally().within(TOLD), True)
        self.assertIs(TOLD.within(Tally()), False)
        self.assertIs(TOLD.within(Tally({(20, 100): 9, (10, 100): 9})), False)
        self.assertIs(TOLD.within(Tally({(20, 100): 9, (10, 100): 9, (10, -1): 2})), False)
        self.assertIs(TOLD.within(Tally({(20, 100): 9, (10, 100): 9, (10, -1): 3})), True)

    def test_other_values_are_refused(self):
        for value in wrong_values():
            if not isinstance(value, Tally):
                self.refused(InvalidOperation, lambda: TOLD + value)
                self.refused(InvalidOperation, lambda: TOLD - value)
                self.refused(InvalidOperation, TOLD.within, value)
                self.refused(InvalidOperation, lambda: Tally() + value)

    def test_answers_of_other_lengths_are_refused(self):
        for other in (Tally({(1,): 1}), Tally({(): 1}), Tally({(1, 2, 3): 1})):
            self.refused(InvalidOperation, lambda: TOLD + other)
            self.refused(InvalidOperation, lambda: TOLD - other)
            self.refused(InvalidOperation, lambda: other - TOLD)
            self.refused(InvalidOperation, TOLD.within, other)
        # What has no answers has no length.
        for empty in (Tally({(1,): 0}), 0 * Tally({(1,): 1}), Tally({(1,): 1}) - Tally({(1,): 1})):
            self.assertEqual(TOLD + empty, TOLD)
            self.assertEqual(TOLD - empty, TOLD)
            self.assertIs(empty.within(TOLD), True)
            self.assertIs(TOLD.within(empty), False)

    def test_a_variable_gets_a_new_value(self):
        told = kept = Tally({(1,): 1})
        told += Tally({(1,): 1, (2,): 1})
        self.assertEqual([told, kept], [Tally({(1,): 2, (2,): 1}), Tally({(1,): 1})])
        with self.assertRaises(InvalidOperation):
            told += TOLD
        with self.assertRaises(InvalidOperation):
            told += 1
        self.assertEqual(told, Tally({(1,): 2, (2,): 1}))

    def test_results_can_be_greater(self):
        most = Tally({(1,): MOST, (2,): 1})
        great = most + most
        self.assert_same(great[1,], 2 * MOST)
        self.assert_same((MOST * great)[1,], 2 * MOST * MOST)
        self.assert_same((10 ** 60 * great)[2,], 2 * 10 ** 60)
        self.assertEqual(great - most, most)
        self.assertEqual(great + great, 4 * most)
        self.assertEqual(great.total, 2 * MOST + 2)
        self.assertIs(great.within(most), False)
        self.assertIs(most.within(great), True)
        self.assertEqual(str(great), f"(1) * {2 * MOST}, (2) * 2")

    def test_text(self):
        self.assertEqual(str(TOLD), "(10, -1) * 3, (10, 100) * 1, (20, 100) * 2")
        self.assertEqual(str(Tally({(7,): 1})), "(7) * 1")
        self.assertEqual(str(Tally({(): 12})), "() * 12")
        self.assertEqual(str(Tally({(1, 2, 3, 4): 1})), "(1, 2, 3, 4) * 1")

    def test_what_is_passed_gives_no_access(self):
        counts = {(2,): 1, (1,): 0}
        told = Tally(counts)
        counts[2,] = 5
        counts[3,] = 1
        self.assertEqual(told, Tally({(2,): 1}))
        self.assertEqual(counts, {(2,): 5, (1,): 0, (3,): 1})
        for name in ("listed", "total"):
            with self.assertRaises(AttributeError):
                setattr(told, name, None)

    def test_random_tallies(self):
        dice = random.Random(3)
        for _ in range(300):
            first, second = ({(dice.randint(0, 4),): dice.randint(0, 3) for _ in range(dice.randint(0, 4))} for _ in range(2))
            one, other = Tally(first), Tally(second)
            self.assertEqual(one + other, Tally(dict(Counter(first) + Counter(second))))
            is_within = all(first[answer] <= second.get(answer, 0) for answer in first)
            self.assertIs(one.within(other), is_within)
            if is_within:
                self.assertEqual(other - one, Tally(dict(Counter(second) - Counter(first))))
            else:
                self.refused(InvalidOperation, lambda: other - one)
            self.assertEqual(one.total, sum(first.values()))


if __name__ == "__main__":
    unittest.main()
