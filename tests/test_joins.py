"""Joins, against all combinations of rows."""

import itertools
import random
import unittest

from goneunseen.ask.joins import Join


def told(triples, head, rows):
    """How often each tuple of values of the head is told, by all combinations of rows with weights."""
    found = {}
    for choice in itertools.product(*rows):
        numbers, many = {}, 1
        for (_, terms, _), row, some in zip(triples, choice, rows):
            many *= some[row]
            if not all((numbers.setdefault(term, part) if isinstance(term, str) else term) == part for term, part in zip(terms, row)):
                break
        else:
            values = tuple(numbers.get(term, term) for term in head)
            found[values] = found.get(values, 0) + many
    return found


class Joins(unittest.TestCase):
    def check(self, places, head, rows):
        triples = tuple(("t", terms, False) for terms in places)
        expected = told(triples, head, rows)
        join = Join(triples, head)
        for _ in range(2):
            values = list(join.values_in([tuple(some) for some in rows]))
            self.assertEqual(sorted(values), sorted(expected), (places, head))
            if all(rows):
                self.assertEqual(join.counts_in(rows), expected, (places, head))
        return expected

    def test_one_place(self):
        rows = [{(1, 2): 1, (2, 2): 3, (2, 5): 2}]
        for terms, head, expected in (
                (("x", "y"), ("x", "y"), {(1, 2): 1, (2, 2): 3, (2, 5): 2}), (("x", "y"), ("y", "x"), {(2, 1): 1, (2, 2): 3, (5, 2): 2}),
                (("x", "y"), ("y",), {(2,): 4, (5,): 2}), (("x", "y"), (), {(): 6}), (("x", "x"), ("x",), {(2,): 3}), (("x", 2), ("x",), {(1,): 1, (2,): 3}),
                ((2, 2), (), {(): 3}), ((3, 2), (), {}), (("x", 2), ("x", 7, "x"), {(1, 7, 1): 1, (2, 7, 2): 3}), ((2, "x"), (7,), {(7,): 5})):
            self.assertEqual(self.check([terms], head, rows), expected)

    def test_places_without_rows(self):
        some = {(1, 2): 1}
        for rows in ([{}, some], [some, {}], [{}, {}]):
            self.assertEqual(self.check([("x", "y"), ("y", "z")], ("x",), rows), {})
            self.assertEqual(self.check([("x", "y"), ("z", "u")], (), rows), {})
        # There is no end to what the others have together, if one has no rows.
        many = tuple((at, other) for at in range(10) for other in range(10))
        triples = tuple(("t", tuple(names), False) for names in ("ab", "cd", "ef", "gh", "ij")) + (("t", (11, "f"), False),)
        self.assertEqual(list(Join(triples, ("a", "c", "g", "i")).values_in([many] * 6)), [])

    def test_random_places(self):
        dice = random.Random(61)
        seen = 0
        for _ in range(1500):
            widths = [dice.randint(1, 3) for _ in range(dice.randint(1, 4))]
            names = "xyzuv"[:dice.randint(1, 5)]
            places = [tuple(dice.choice([*names, *names, 0, 1]) for _ in range(width)) for width in widths]
            known = sorted({term for terms in places for term in terms if isinstance(term, str)})
            head = tuple(dice.choice([*known, 3]) for _ in range(dice.randint(0, 4)))
            rows = [{tuple(dice.randint(0, 2) for _ in range(width)): dice.randint(1, 3) for _ in range(dice.randint(1, 5))} for width in widths]
            seen += bool(self.check(places, head, rows))
        self.assertGreater(seen, 400)


if __name__ == "__main__":
    unittest.main()
