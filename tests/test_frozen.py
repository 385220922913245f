"""[10.1] to [10.3]: frozen rules."""

import itertools
import random
import unittest

from goneunseen.ask.answers import matches
from goneunseen.ask.places import Place
from goneunseen.ask.rules import Rule
from goneunseen.base.bases import Base
from goneunseen.errors import InvalidBase, InvalidOperation, InvalidPaper, InvalidRule, InvalidScheme
from goneunseen.frozen.frozen import carried, frozen, is_frozen
from goneunseen.scheme.schemes import Scheme
from goneunseen.scheme.tables import Table
from tests.freezing import canonical, chains, clashing_rule, freeze, frozen_both_ways, integers_of, with_integers
from tests.oracle import some_schemes
from tests.values import DAY, GREAT, SALES, SHOP, TOO_GREAT, Case, wrong_but, wrong_values
from tests.views import random_base, random_rule

LAX = SHOP.without(("all", "buyer"))
PARTS, BOUGHT = SALES["parts"][0], SALES["bought"][0]
PARTED = Rule(("o", "p"), Place("item", "o", "p"), without=((Place("item", "p", "o"),),))
PLAIN = Scheme(Table("t", 2), Table("s", 1))
# Six items of the last table, twelve of the one ahead of it, twenty-four of the first.
WIDE = Scheme(
    Table("a", 2, key=(0,)), Table("b", 4, key=(0,), refers=(((1,), "a"), ((2,), "a"))),
    Table("c", 4, key=(0,), refers=(((1,), "b"), ((2,), "b"))))
SIX = Rule((), *[Place("c", *[letter + other for other in "wxyz"]) for letter in "abcdef"])


def is_integers(value):
    return isinstance(value, tuple) and all(type(part) is int for part in value)


def rules_over(scheme, dice, many):
    sources = [(table.name, table.width, True) for table in scheme]
    return [random_rule(dice, sources, 3) for _ in range(many)] + [clashing_rule(scheme, dice) for _ in range(many // 4)]


class Freezing(Case):
    def check(self, scheme, rule, dice=random.Random(0)):
        """Compares with freezing in other orders, in both ways; returns the frozen rules."""
        results = []
        for living, value in frozen_both_ways(scheme, rule):
            for _ in range(2):
                found = freeze(dice, scheme, rule, living)
                if found is None:
                    self.assertIsNone(value)
                    self.assertIs(is_frozen(scheme, rule, None, living=living), True)
                else:
                    other = with_integers(dice, scheme, rule, found)
                    self.assertEqual(canonical(scheme, rule, value), canonical(scheme, rule, other))
                    self.assertIs(is_frozen(scheme, rule, other, living=living), True)
                    self.assertIs(is_frozen(scheme, rule, value, living=living), True)
                    self.assertIs(is_frozen(scheme, rule, None, living=living), False)
                    self.check_form(scheme, rule, value)
            results.append(value)
        return results

    def check_form(self, scheme, rule, value):
        self.assertIsInstance(value, tuple)
        base, places, head = value
        self.assertEqual(base.scheme, scheme)
        self.assertEqual([len(places), len(head)], [len(rule), len(rule.head)])
        for place, (row, is_living) in zip(rule, places):
            self.assertIs(type(row), tuple)
            self.assertIs(type(is_living), bool)
            self.assertTrue(base[place.source, row][0] if is_living else base[place.source, row][1])
        # What it comes to is a match of the rule, with this head.
        numbers = {}
        for place, (row, is_living) in zip(rule, places):
            for term, part in zip(place.terms, row):
                self.assertEqual(numbers.setdefault(term, part) if isinstance(term, str) else term, part)
        self.assertEqual(head, tuple(numbers.get(term, term) for term in rule.head))
        self.assertTrue(all(abs(number) <= GREAT for number in integers_of(base)))

    def test_the_sales(self):
        for name in ("bought", "parts"):
            for scheme in (SHOP, LAX):
                self.check(scheme, SALES[name][0])
        base, places, head = frozen(SHOP, BOUGHT)
        # The order of the item is another one than the gone order.
        self.assertEqual([len(base.living("order")), sum(base.gone("order").values()), len(base.living("buyer")), sum(base.gone("buyer").values())], [1, 1, 1, 1])
        self.assertEqual([is_living for _, is_living in places], [False, False, True])
        base, places, head = frozen(SHOP, BOUGHT, living=True)
        self.assertEqual([base.size, base.alive(), [is_living for _, is_living in places]], [3, base, [True, True, True]])

    def test_merging(self):
        def sizes(scope, *filters):
            scheme = Scheme(Table("a", 2, key=(0,), scope=scope))
            places = [Place("a", "k", name, filtered=filtered) for name, filtered in zip("xy", filters)]
            base, places, head = self.check(scheme, Rule(("x", "y"), *places))[0]
            return len(base.living("a")), base.size, places[0] == places[1], head[0] == head[1]
        self.assertEqual(sizes("living", True, True), (1, 1, True, True))
        self.assertEqual(sizes("living", True, False), (1, 2, False, False))
        self.assertEqual(sizes("living", False, False), (0, 2, False, False))
        # With the scope "all" a gone one becomes living by it.
        self.assertEqual(sizes("all", True, True), (1, 1, True, True))
        self.assertEqual(sizes("all", False, True), (1, 1, True, True))
        self.assertEqual(sizes("all", False, False), (0, 1, True, True))

    def test_the_same_living_rows(self):
        free, filtered = Place("t", "x", "y"), +Place("t", "x", "y")
        for places, living, copies in (
                ((free, free), 0, 2), ((filtered, filtered), 1, 0), ((free, filtered, free), 1, 2), ((free,), 0, 1),
                ((filtered, +Place("t", "y", "x")), 2, 0)):
            base, _, _ = self.check(PLAIN, Rule(("x",), *places))[0]
            self.assertEqual([len(base.living("t")), sum(base.gone("t").values())], [living, copies])
        base, places, _ = frozen(PLAIN, Rule((), free, filtered, free))
        # A row can be living and have copies.
        self.assertEqual(base.gone("t"), {places[0][0]: 2})
        self.assertEqual(base.living("t"), (places[1][0],))
        self.assertEqual([places[0][0] == places[1][0], places[0][1], places[1][1]], [True, False, True])
        # By a merge of other rows two rows become the same.
        scheme = Scheme(Table("k", 2, key=(0,)), Table("t", 2))
        rule = Rule((), +Place("k", "x", "y"), +Place("k", "x", "z"), +Place("t", 1, "y"), +Place("t", 1, "z"), Place("t", 1, "z"))
        base, places, _ = self.check(scheme, rule)[0]
        self.assertEqual([base.size, places[2] == places[3], len(base.living("t"))], [3, True, 1])

    def test_references(self):
        for scheme in chains():
            for terms in (("x", "y"), ("x", "x"), (1, "x"), (1, 1)):
                for filtered in (False, True):
                    value, living = self.check(scheme, Rule((), Place("d", *terms, filtered=filtered)))
                    self.assertEqual(value[0].size == 1, not filtered)
                    self.assertGreater(living[0].size, 3)
        base, _, _ = frozen(chains()[0], Rule((), +Place("d", "x", "y")))
        self.assertEqual([len(base.living(name)) for name in "abcd"], [2, 2, 1, 1])
        # A row that is there is not added again, also if it is living by a merge only.
        rule = Rule((), Place("buyer", "b", "t"), +Place("order", "o", "b"), Place("buyer", "b", "u"))
        self.assertEqual(self.check(SHOP, rule)[0][0].size, 2)
        self.assertEqual(self.check(LAX, rule)[0][0].size, 4)

    def test_empty_rules(self):
        for rule, scheme, expected in (
                (Rule((), +Place("order", "o", 1), +Place("order", "o", 2)), SHOP, [True, True]),
                (Rule((), +Place("order", "o", 1), Place("order", "o", 2)), SHOP, [False, True]),
                (Rule((), Place("buyer", "o", 1), Place("buyer", "o", 2)), SHOP, [True, True]),
                (Rule((), Place("buyer", "o", 1), Place("buyer", "o", 2)), LAX, [False, True]),
                (Rule((), Place("t", "o", 1), +Place("t", "o", 2)), PLAIN, [False, False]),
                (Rule((), +Place("item", "o", "p"), +Place("order", "o", "b"), Place("buyer", "b", 3), Place("buyer", "b", 4)), SHOP, [True, True]),
                (Rule((), Place("buyer", 5, 3), +Place("order", "o", 5), +Place("order", "o", "b"), Place("buyer", "b", 4)), SHOP, [True, True])):
            self.assertEqual([value is None for value in self.check(scheme, rule)], expected)

    def test_integers_of_the_rule_are_kept(self):
        rule = Rule((9, "b"), +Place("item", 4, 7), Place("order", 4, "b"), +Place("buyer", "c", GREAT), +Place("order", 4, "c"))
        base, places, head = self.check(SHOP, rule)[0]
        self.assertEqual([head[0], places[0][0], places[1][0][0], places[2][0][1], places[3][0][0]], [9, (4, 7), 4, GREAT, 4])
        self.assertEqual(len([number for number in integers_of(base) if number not in (4, 7, GREAT)]), 2)
        self.assertNotIn(9, integers_of(base))

    def test_new_integers_avoid_others(self):
        for scheme, rule in ((SHOP, BOUGHT), (SHOP, PARTS), (PLAIN, Rule((0, 2), Place("t", "x", 1))), (WIDE, SIX)):
            value = frozen(scheme, rule)
            seen = ()
            for _ in range(4):
                base, places, head = value
                fresh = [number for number in integers_of(base) if number not in rule.integers]
                self.assertEqual([number for number in fresh if number in seen or number in rule.integers], [])
                self.assertEqual(canonical(scheme, rule, value), canonical(scheme, rule, frozen(scheme, rule)))
                self.assertIs(is_frozen(scheme, rule, value, avoid=seen), True)
                self.assertIs(is_frozen(scheme, rule, value, avoid=(fresh[-1],)), False)
                self.assertIs(is_frozen(scheme, rule, value, avoid=seen + (GREAT, fresh[0])), False)
                seen = seen + tuple(fresh) + (TOO_GREAT, -10 ** 40)
                value = frozen(scheme, rule, avoid=seen)
        many = tuple(range(-50, 1000)) + (10 ** 39,)
        self.assertEqual([number for number in integers_of(frozen(WIDE, SIX, avoid=many)[0]) if number in many], [])
        # Integers of the rule can be avoided: they are not new.
        rule = Rule((), Place("t", 3, "x"))
        self.assertIs(is_frozen(PLAIN, rule, frozen(PLAIN, rule, avoid=(3,)), avoid=(3,)), True)

    def test_at_most_42_items(self):
        for living, value in frozen_both_ways(WIDE, SIX):
            self.assertEqual([len(value[0].living(name)) for name in "abc"], [24, 12, 6] if living else [0, 0, 0])
            self.assertEqual(value[0].size, 42 if living else 6)
            self.assertIs(is_frozen(WIDE, SIX, value, living=living), True)
        dice = random.Random(1)
        found = with_integers(dice, WIDE, SIX, freeze(dice, WIDE, SIX, True))
        self.assertIs(is_frozen(WIDE, SIX, found, living=True), True)
        self.assertEqual(canonical(WIDE, SIX, found), canonical(WIDE, SIX, frozen(WIDE, SIX, living=True)))

    def test_random_rules(self):
        dice = random.Random(21)
        empty = 0
        for scheme in [*some_schemes(), *chains()]:
            for rule in rules_over(scheme, dice, 40):
                empty += None in self.check(scheme, rule, dice)
        self.assertGreater(empty, 10)

    def test_wrong_arguments(self):
        for function in (frozen, lambda scheme, rule, **more: is_frozen(scheme, rule, None, **more)):
            for value in wrong_values():
                if not isinstance(value, Scheme):
                    self.refused(InvalidScheme, function, value, PARTS)
                    self.refused(InvalidScheme, function, value, value, avoid=value, living=value)
                self.refused(InvalidRule, function, SHOP, value)
                self.refused(InvalidRule, function, SHOP, value, avoid=value, living=value)
                if not is_integers(value):
                    self.refused(InvalidOperation, function, SHOP, PARTS, avoid=value)
                if type(value) is not int:
                    self.refused(InvalidOperation, function, SHOP, PARTS, avoid=(1, value))
                if value is not True and value is not False:
                    self.refused(InvalidOperation, function, SHOP, PARTS, living=value)
            self.refused(InvalidRule, function, SHOP, PARTED)
            self.refused(InvalidRule, function, PLAIN, PARTS)
            self.refused(InvalidRule, function, SHOP, Rule((), Place("buyer", "b")))
            self.refused(InvalidRule, function, SHOP, SALES["towns"][0])
            self.refused(InvalidOperation, function, SHOP, PARTS, avoid=[1])
            self.refused(InvalidOperation, function, SHOP, PARTS, avoid=None)


class Judging(Case):
    def test_other_values(self):
        for rule in (PARTS, BOUGHT, Rule((), Place("buyer", "b", "t"))):
            for living, value in frozen_both_ways(SHOP, rule):
                base, places, head = value
                row, is_living = places[0]
                for wrong in (
                        None, (), value[:2], value + (0,), [base, places, head], (base, list(places), head), (base, places, list(head)),
                        (SHOP, places, head), (base, places[::-1], head), (base, places[1:], head), (base, places + places[:1], head),
                        (base, places, head + (0,)), (base, places, head[1:] + (77,)), (base, ((row, not is_living),) + places[1:], head),
                        (base, ((row, int(is_living)),) + places[1:], head), (base, ((list(row), is_living),) + places[1:], head),
                        (base, ((row[:1], is_living),) + places[1:], head), (base, ((row, is_living, 0),) + places[1:], head),
                        (base, ((row,),) + places[1:], head), (base, (row,) + places[1:], head), (base, (None,) + places[1:], head),
                        (base.on(LAX), places, head), (Base.empty(SHOP), places, head), (base.alive(), places, head)):
                    # Some of these changes leave a value as it is.
                    if wrong != value:
                        self.assertIs(is_frozen(SHOP, rule, wrong, living=living), False, str(wrong))

    def test_bases_of_other_schemes(self):
        for living, (base, places, head) in frozen_both_ways(SHOP, PARTS):
            for scheme in (PLAIN, Scheme(SHOP["buyer"]), Scheme(SHOP["buyer"], Table("order", 2), Table("item", 2)), LAX):
                self.assertIs(is_frozen(SHOP, PARTS, (Base.empty(scheme), places, head), living=living), False)
                self.refused(InvalidPaper, carried, SHOP, PARTS, (Base.empty(scheme), places, head), DAY, ())

    def test_other_kinds_of_values(self):
        for living in (False, True):
            base, places, head = frozen(SHOP, PARTS, living=living)
            for value in wrong_values():
                self.assertIs(is_frozen(SHOP, PARTS, value, living=living), False)
                self.assertIs(is_frozen(SHOP, PARTS, (value, places, head), living=living), False)
                self.assertIs(is_frozen(SHOP, PARTS, (base, value, head), living=living), False)
                self.assertIs(is_frozen(SHOP, PARTS, (base, (value, places[1]), head), living=living), False)
                self.assertIs(is_frozen(SHOP, PARTS, (base, ((value, places[0][1]), places[1]), head), living=living), False)
                if value != head:
                    self.assertIs(is_frozen(SHOP, PARTS, (base, places, value), living=living), False)

    def test_booleans_are_no_integers(self):
        base = Base(PLAIN, gone={"s": ((1,),)})
        rule = Rule(("x",), Place("s", "x"))
        self.assertIs(is_frozen(PLAIN, rule, (base, (((1,), False),), (1,))), True)
        for value in ((base, (((1,), 0),), (1,)), (base, (((True,), False),), (1,)), (base, (((1,), False),), (True,))):
            self.assertIs(is_frozen(PLAIN, rule, value), False)

    def test_new_integers_are_different_and_new(self):
        rule = Rule(("x",), Place("t", "x", "y"), Place("t", 5, "x"))
        def value(x, y):
            return Base(PLAIN, gone={"t": ((x, y), (5, x))}), (((x, y), False), ((5, x), False)), (x,)
        self.assertIs(is_frozen(PLAIN, rule, value(1, 2)), True)
        self.assertIs(is_frozen(PLAIN, rule, value(-GREAT, GREAT)), True)
        for x, y in ((1, 1), (5, 1), (1, 5), (5, 5)):
            self.assertIs(is_frozen(PLAIN, rule, value(x, y)), False)
        for avoid, expected in (((1,), False), ((2,), False), ((3, 5), True), ((TOO_GREAT, 2), False), ((), True)):
            self.assertIs(is_frozen(PLAIN, rule, value(1, 2), avoid=avoid), expected)
        # Integers that stand in the head alone are in the rule, too.
        self.assertIs(is_frozen(PLAIN, Rule((9,), Place("s", "x")), (Base(PLAIN, gone={"s": ((9,),)}), (((9,), False),), (9,))), False)

    def test_more_and_fewer_rows(self):
        base, places, head = frozen(SHOP, PARTS)
        living = {name: base.living(name) for name in SHOP.names}
        gone = {name: tuple(row for row, many in base.gone(name).items() for _ in range(many)) for name in SHOP.names}
        for name in SHOP.names:
            more = Base(SHOP, living=living, gone={**gone, name: gone[name] + ((500, 501),)})
            self.assertIs(is_frozen(SHOP, PARTS, (more, places, head)), False)
        more = Base(SHOP, living={**living, "buyer": living["buyer"] + ((500, 501),)}, gone=gone)
        self.assertIs(is_frozen(SHOP, PARTS, (more, places, head)), False)
        twice = Base(SHOP, living=living, gone={**gone, "order": gone["order"] * 2})
        self.assertIs(is_frozen(SHOP, PARTS, (twice, places, head)), False)
        none = Base(SHOP, living=living)
        self.assertIs(is_frozen(SHOP, PARTS, (none, places, head)), False)
        # The order to which the item refers has another buyer than before.
        other = Base(SHOP, living={**living, "buyer": ((500, 501),), "order": ((living["order"][0][0], 500),)}, gone=gone)
        self.assertIs(is_frozen(SHOP, PARTS, (other, places, head)), True)
        two = (places[0], (places[0][0], False))
        self.assertIs(is_frozen(PLAIN, Rule((), Place("s", "x"), Place("s", "x")), (Base(PLAIN, gone={"s": ((1,),)}), (((1,), False),) * 2, ())), False)
        self.assertIs(is_frozen(SHOP, PARTS, (base, two, head)), False)

    def test_a_row_that_is_referred_to_is_living(self):
        base, places, head = frozen(SHOP, PARTS, living=True)
        (item, _), (order, _) = places
        free = Base(SHOP, gone={"item": (item,), "order": (order,), "buyer": base.living("buyer")})
        self.assertIs(is_frozen(SHOP, PARTS, (free, ((item, True), (order, True)), head), living=True), False)
        self.assertIs(is_frozen(SHOP, PARTS, (free, ((item, False), (order, False)), head), living=True), False)
        self.assertIs(is_frozen(SHOP, PARTS, (free, ((item, True), (order, False)), head)), False)

    def test_random_values_of_other_rules(self):
        dice = random.Random(22)
        for scheme in some_schemes():
            rules = rules_over(scheme, dice, 12)
            values = [(rule, living, value) for rule in rules for living, value in frozen_both_ways(scheme, rule)]
            for rule in rules:
                for living, own in frozen_both_ways(scheme, rule):
                    for other, _, value in values:
                        if own is None or value is None:
                            expected = own is None and value is None
                        else:
                            expected = len(rule) == len(other) and len(rule.head) == len(other.head)
                            expected = expected and canonical(scheme, rule, own) == canonical(scheme, rule, value)
                        self.assertIs(is_frozen(scheme, rule, value, living=living), expected)


def carriers(scheme, rule, value, base, match):
    """All dicts that carry a frozen rule to a base as the match tells."""
    numbers, targets = integers_of(value[0]), integers_of(base)
    for choice in itertools.product(targets, repeat=len(numbers)):
        carry = dict(zip(numbers, choice))
        def carried_row(row):
            return tuple(carry[part] for part in row)
        if all(carried_row(row) == to and (not living or to_living) for (row, living), (to, to_living) in zip(value[1], match)):
            if all(base[name, carried_row(row)][0] for name in scheme.names for row in value[0].living(name)):
                yield carry


class Carrying(Case):
    def check(self, scheme, rule, base, dice, most=4000):
        seen = 0
        for living in (False, True):
            found = freeze(dice, scheme, rule, living)
            if found is None:
                continue
            value = with_integers(dice, scheme, rule, found)
            for match in list(matches(scheme, rule, base, living=living))[:6]:
                carry = carried(scheme, rule, value, base, match)
                self.assertEqual(list(carry), integers_of(value[0]))
                self.assertIs(type(carry), dict)
                if len(integers_of(base)) ** len(carry) <= most:
                    self.assertEqual(list(carriers(scheme, rule, value, base, match)), [carry])
                    seen += 1
        return seen

    def test_the_sales(self):
        value = frozen(SHOP, PARTS)
        for match in matches(SHOP, PARTS, DAY):
            carry = carried(SHOP, PARTS, value, DAY, match)
            self.assertEqual(list(carry), integers_of(value[0]))
            for (row, _), (to, _) in zip(value[1], match):
                self.assertEqual(tuple(carry[part] for part in row), to)
            for name in SHOP.names:
                for row in value[0].living(name):
                    self.assertIs(DAY[name, tuple(carry[part] for part in row)][0], True)
        living = frozen(SHOP, PARTS, living=True)
        for match in matches(SHOP, PARTS, DAY, living=True):
            self.assertEqual(len(carried(SHOP, PARTS, living, DAY, match)), 4)

    def test_integers_of_the_rule_are_carried_to_themselves(self):
        rule = Rule((), +Place("item", 5, "p"), Place("order", 5, 3))
        value = frozen(SHOP, rule)
        match = next(matches(SHOP, rule, DAY))
        carry = carried(SHOP, rule, value, DAY, match)
        self.assertEqual([carry[5], carry[3], list(carry) == integers_of(value[0])], [5, 3, True])

    def test_random_bases(self):
        dice = random.Random(23)
        seen = 0
        for scheme in [*some_schemes(), *chains()]:
            for rule in rules_over(scheme, dice, 25):
                seen += self.check(scheme, rule, random_base(dice, scheme), dice)
        self.assertGreater(seen, 100)

    def test_from_living_rows_if_it_is_frozen_only_as_living(self):
        rule = Rule((), Place("s", "x"))
        base = Base(PLAIN, living={"s": ((1,),)}, gone={"s": ((2,),)})
        gone, living = (((2,), False),), (((1,), True),)
        free, only = frozen(PLAIN, rule), frozen(PLAIN, rule, living=True)
        self.assertEqual(list(carried(PLAIN, rule, free, base, gone).values()), [2])
        self.assertEqual(list(carried(PLAIN, rule, free, base, living).values()), [1])
        self.assertEqual(list(carried(PLAIN, rule, only, base, living).values()), [1])
        self.refused(InvalidOperation, carried, PLAIN, rule, only, base, gone)
        # Frozen in both ways it is a frozen rule for all rows.
        firm = Scheme(Table("k", 1, key=(0,), scope="all"))
        both = Rule((), +Place("k", "x"), Place("k", "x"))
        value = frozen(firm, both)
        self.assertIs(is_frozen(firm, both, value, living=True), True)
        self.assertEqual(list(carried(firm, both, value, Base(firm, living={"k": ((4,),)}), (((4,), True),) * 2).values()), [4])

    def test_no_matches(self):
        value = frozen(SHOP, PARTS)
        match = (((5, 100), True), ((5, 3), False))
        self.assertEqual(len(carried(SHOP, PARTS, value, DAY, match)), 5)
        for wrong in (
                (((5, 100), True), ((5, 3), True)), (((5, 100), False), ((5, 3), False)), (((5, 200), False), ((5, 3), False)),
                (((5, 100), True), ((6, 2), True)), (((5, 100), True), ((5, 9), False)), (((5, 100), True),), match + match[:1], list(match),
                (((5, 100), 1), ((5, 3), 0)), (((5, 100), True), ((5, 3), False, 0)), (((5, 100), True), [(5, 3), False]),
                (((5, 100), True), ([5, 3], False)), (((5, 100), True), ((5, 3, 1), False)), (((5, 100), True), ((5,), False)), None, (),
                (((5, 100), True), (5, 3)), (((5, 100), True), None)):
            self.refused(InvalidOperation, carried, SHOP, PARTS, value, DAY, wrong)
        one = Base(PLAIN, living={"s": ((1,),)})
        rule = Rule((), Place("s", "x"))
        self.refused(InvalidOperation, carried, PLAIN, rule, frozen(PLAIN, rule), one, (((True,), True),))
        self.refused(InvalidOperation, carried, PLAIN, rule, frozen(PLAIN, rule), one, (((1,), False),))
        for value_of in wrong_values():
            self.refused(InvalidOperation, carried, SHOP, PARTS, value, DAY, value_of)
            self.refused(InvalidOperation, carried, SHOP, PARTS, value, DAY, (value_of, match[1]))
            self.refused(InvalidOperation, carried, SHOP, PARTS, value, DAY, (match[0], (value_of, False)))

    def test_wrong_arguments(self):
        value = frozen(SHOP, PARTS)
        match = (((5, 100), True), ((5, 3), False))
        for wrong in wrong_values():
            if not isinstance(wrong, Scheme):
                self.refused(InvalidScheme, carried, wrong, PARTS, value, DAY, match)
                self.refused(InvalidScheme, carried, wrong, wrong, wrong, wrong, wrong)
            self.refused(InvalidRule, carried, SHOP, wrong, value, DAY, match)
            self.refused(InvalidRule, carried, SHOP, wrong, wrong, wrong, wrong)
            self.refused(InvalidPaper, carried, SHOP, PARTS, wrong, DAY, match)
            self.refused(InvalidPaper, carried, SHOP, PARTS, wrong, wrong, wrong)
        for wrong in wrong_but(DAY):
            self.refused(InvalidBase, carried, SHOP, PARTS, value, wrong, match)
            self.refused(InvalidBase, carried, SHOP, PARTS, value, wrong, wrong)
        self.refused(InvalidRule, carried, SHOP, PARTED, value, DAY, match)
        self.refused(InvalidPaper, carried, SHOP, PARTS, frozen(SHOP, BOUGHT), DAY, match)
        self.refused(InvalidPaper, carried, SHOP, PARTS, value[:2], DAY, match)
        self.refused(InvalidBase, carried, SHOP, PARTS, value, DAY.on(LAX), match)
        # None is frozen of an empty rule, but nothing can be carried.
        empty = Rule((), +Place("order", "o", 1), +Place("order", "o", 2))
        self.assertIs(is_frozen(SHOP, empty, None), True)
        self.refused(InvalidPaper, carried, SHOP, empty, None, DAY, ())
        firm = Scheme(Table("k", 2, key=(0,)))
        empty = Rule((), +Place("k", "x", 1), +Place("k", "x", 2))
        for one in (((7, 1), True), ((7, 2), True)):
            value = (Base(firm, living={"k": (one[0],)}), (one, one), ())
            self.assertIs(is_frozen(firm, empty, value), False)
            self.refused(InvalidPaper, carried, firm, empty, value, Base(firm, living={"k": (one[0],)}), (one, one))


if __name__ == "__main__":
    unittest.main()
