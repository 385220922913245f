"""[15.3]: classes."""

import itertools
import random
import unittest

from goneunseen.ask.places import Place
from goneunseen.ask.programs import Program
from goneunseen.ask.rules import Rule
from goneunseen.ask.spots import Spots
from goneunseen.errors import InvalidMode, InvalidOperation, InvalidRule, InvalidScheme
from goneunseen.frozen.cores import core, unreferred
from goneunseen.least.classes import classes, is_classes
from goneunseen.least.filters import is_needy, tight_sets
from goneunseen.scheme.schemes import Scheme
from goneunseen.scheme.tables import Table
from tests.freezing import chains
from tests.oracle import some_schemes
from tests.values import SALES, SHOP, Case, wrong_values

MODES = ("answers", "numbers")
PLAIN = Scheme(Table("t", 2), Table("s", 1))
FIRM = Scheme(Table("a", 2, key=(0,), scope="all"), Table("b", 2, key=(0,), scope="all", refers=(((1,), "a"),)), Table("c", 2, refers=(((0,), "b"),)))
SOLD = Scheme(Table("buyer", 2, key=(0,), scope="all"), Table("order", 2, refers=(((1,), "buyer"),)))
RULE = Rule((), Place("buyer", "c", "u"), Place("order", "o", "b"), Place("buyer", "b", "t"))


def is_firm(scheme):
    return all(table.key is None or table.scope == "all" for table in scheme)


def is_right(scheme, rule, value, mode):
    """Whether a tuple of tuples of integers is classes, as [15.3] words it."""
    program = Program.of(scheme, {"zzz": rule})
    many = {len(spots) for spots in tight_sets(program, "zzz", mode=mode)}
    together = [index for indices in value for index in indices]
    if len(set(together)) < len(together) or {len(value)} != many:
        return False
    if any(list(indices) != sorted(set(indices)) for indices in value) or list(value) != sorted(set(value)):
        return False
    if not all(0 <= index < len(rule) for index in together):
        return False
    return all(is_needy(program, "zzz", Spots(*[("zzz", 0, index) for index in indices]), mode=mode) for indices in value)


def some_values(many):
    """All ascending tuples of ascending tuples of indices without one in common."""
    found = []
    for word in itertools.product(range(many + 1), repeat=many):
        groups = [tuple(index for index in range(many) if word[index] == group) for group in range(1, many + 1)]
        found.append(tuple(sorted(group for group in groups if group)))
    return sorted(set(found))


def random_rule(dice, scheme, most):
    places = []
    for _ in range(dice.randint(1, most)):
        table = dice.choice(list(scheme))
        places.append(Place(table.name, *[dice.choice("xyzw") for _ in range(table.width)]))
    known = sorted({name for place in places for name in place.variables})
    return Rule(tuple(dice.choice(known) for _ in range(dice.randint(0, 2))), *places)


class Classes(Case):
    def check(self, scheme, rule, mode):
        found = classes(scheme, rule, mode=mode)
        self.assertTrue(is_right(scheme, rule, found, mode), (str(rule), found))
        self.assertIs(is_classes(scheme, rule, found, mode=mode), True)
        program = Program.of(scheme, {"zzz": rule})
        for spots in tight_sets(program, "zzz", mode=mode):
            self.assertEqual([sum(("zzz", 0, index) in spots for index in indices) for indices in found], [1] * len(found))
            self.assertEqual(len(spots), len(found))
        if len(rule) <= 3:
            for value in some_values(len(rule)):
                self.assertIs(is_classes(scheme, rule, value, mode=mode), is_right(scheme, rule, value, mode), value)
        return found

    def test_the_sales(self):
        self.assertEqual(self.check(SOLD, RULE, "answers"), classes(SOLD, RULE))
        self.assertIs(is_classes(SOLD, RULE, ((1,),)), True)
        self.assertEqual(self.check(SOLD, RULE, "numbers"), ((0,), (1,)))

    def test_sets_that_are_needy_without_being_least(self):
        self.assertIs(is_classes(SOLD, RULE, ((0, 1),)), True)
        self.assertIs(is_classes(SOLD, RULE, ((0, 2),)), False)
        rule = Rule((), Place("s", "x"), Place("s", "y"))
        self.assertEqual(classes(PLAIN, rule), ((0, 1),))
        self.assertIs(is_classes(PLAIN, rule, ((0,),)), False)
        self.assertEqual(classes(PLAIN, rule, mode="numbers"), ((0,), (1,)))

    def test_six_places(self):
        rule = Rule((), *[Place("s", name) for name in "abcdef"])
        self.assertEqual(self.check(PLAIN, rule, "answers"), ((0, 1, 2, 3, 4, 5),))
        self.assertEqual(self.check(PLAIN, rule, "numbers"), tuple((index,) for index in range(6)))
        rule = Rule(("a", "b"), *[Place("t", x, y) for x, y in ("ab", "ac", "db", "bd", "be", "fe")])
        for mode in MODES:
            self.check(PLAIN, rule, mode)

    def test_a_fold_onto_a_core_gives_classes(self):
        dice = random.Random(91)
        for scheme in [FIRM, SOLD, PLAIN, *[scheme for scheme in some_schemes() if is_firm(scheme)]]:
            for _ in range(40):
                rule = random_rule(dice, scheme, 4)
                (_, places, _), fold, rows = core(scheme, rule)
                ends = unreferred(scheme, rows)
                found = {end: [] for end in ends}
                for index, (place, (row, _)) in enumerate(zip(rule, places)):
                    image = (place.source, tuple(fold[part] for part in row))
                    if image in found:
                        found[image].append(index)
                value = tuple(sorted(tuple(indices) for indices in found.values()))
                self.assertIs(is_classes(scheme, rule, value), True, (str(rule), value))
                self.assertEqual(len(classes(scheme, rule)), len(ends))

    def test_random_rules(self):
        dice = random.Random(92)
        seen = {}
        for scheme in [FIRM, SOLD, *some_schemes(), *chains()]:
            for _ in range(20):
                rule = random_rule(dice, scheme, 4)
                for mode in MODES if is_firm(scheme) else ("numbers",):
                    many = len(self.check(scheme, rule, mode))
                    seen[mode, many] = seen.get((mode, many), 0) + 1
        for key in itertools.product(MODES, (1, 2, 3)):
            self.assertGreater(seen[key], 5)

    def test_wrong_values(self):
        for value in wrong_values():
            self.assertIs(is_classes(SOLD, RULE, value), False)
            self.assertIs(is_classes(SOLD, RULE, ((1,), value)), False)
            if value != (1,):
                self.assertIs(is_classes(SOLD, RULE, (value,)), False)
            if not (type(value) is int and value == 1):
                self.assertIs(is_classes(SOLD, RULE, ((value,),)), False)
        for value in ([(1,)], ([1],), ((1, 1),), ((1,), ()), ((), (1,)), ((-2,),), ((3,),), ((1, 0),), ((True,),), ((1,), (1,)), (1,), ()):
            self.assertIs(is_classes(SOLD, RULE, value), False, value)
        self.assertIs(is_classes(SOLD, RULE, ((1,), (0,)), mode="numbers"), False)
        self.assertIs(is_classes(SOLD, RULE, ((0, 1), (1,)), mode="numbers"), False)


class AskedAgain(Case):
    def test_what_was_asked_before_changes_nothing(self):
        # The same rule and the same program are asked about again, in both modes and under schemes that take turns.
        dice = random.Random(93)
        for scheme in [FIRM, SOLD, *some_schemes(), *chains()]:
            schemes = [scheme, Scheme(*scheme.listed)] + [scheme.without(rule) for rule in scheme.rules if rule[0] == "refers"]
            rules = [random_rule(dice, scheme, 4) for _ in range(3)]
            programs = [Program.of(scheme, {"zzz": rule}) for rule in rules]
            for _ in range(40):
                at, some, mode = dice.randrange(len(rules)), dice.choice(schemes), dice.choice(MODES if is_firm(scheme) else MODES[1:])
                again = Rule.of(rules[at].head, rules[at].places)
                found = classes(some, rules[at], mode=mode)
                self.assert_same(found, classes(some, again, mode=mode))
                value = dice.choice((found, dice.choice(some_values(len(again)))))
                self.assertIs(is_classes(some, rules[at], value, mode=mode), is_classes(some, Rule.of(again.head, again.places), value, mode=mode))
                fresh = Program.of(scheme, {"zzz": again})
                self.assertEqual(list(tight_sets(programs[at], "zzz", mode=mode)), list(tight_sets(fresh, "zzz", mode=mode)))
                for indices in found:
                    spots = Spots(*[("zzz", 0, index) for index in indices])
                    self.assertIs(is_needy(programs[at], "zzz", spots, mode=mode), is_needy(Program.of(scheme, {"zzz": again}), "zzz", spots, mode=mode))

    def test_errors_after_answers(self):
        rule, clash = Rule((), Place("s", "x"), Place("s", "y")), Rule((), Place("t", "x", 1), Place("t", "x", 2))
        keyed = Scheme(Table("t", 2, key=(0,)), Table("s", 1))
        for _ in range(2):
            self.assertEqual(classes(PLAIN, rule), ((0, 1),))
            self.assertEqual(classes(PLAIN, clash), ((0,), (1,)))
            self.refused(InvalidOperation, classes, keyed, rule)
            self.refused(InvalidOperation, classes, keyed, clash, mode="numbers")
            self.assertEqual(classes(keyed, rule, mode="numbers"), ((0,), (1,)))
            self.refused(InvalidRule, is_classes, SHOP, rule, ((0, 1),))
            self.refused(InvalidMode, is_classes, PLAIN, rule, ((0, 1),), mode="check")
            self.refused(InvalidScheme, is_classes, None, rule, ((0, 1),))

    def test_rules_with_filters_or_parts(self):
        # A rule that is like one that was asked about is another one.
        rule = Rule(("x",), Place("s", "x"), Place("s", "y"))
        self.assertEqual(classes(PLAIN, rule, mode="numbers"), ((0,), (1,)))
        self.refused(InvalidOperation, classes, PLAIN, Rule(("x",), +Place("s", "x"), Place("s", "y")), mode="numbers")
        self.assertEqual(classes(PLAIN, rule & Place("s", "z"), mode="numbers"), ((0,), (1,), (2,)))
        self.assertEqual([classes(PLAIN, one) for one in (rule, rule.renamed({"y": "x"}), rule)], [((0,),), ((0, 1),), ((0,),)])


class Arguments(Case):
    def test_wrong_arguments(self):
        parted = Rule(("b", "t"), Place("buyer", "b", "t"), without=((Place("buyer", "t", "b"),),))
        for function in (classes, lambda scheme, rule, **more: is_classes(scheme, rule, None, **more)):
            for value in wrong_values():
                if not isinstance(value, Scheme):
                    self.refused(InvalidScheme, function, value, RULE)
                    self.refused(InvalidScheme, function, value, value, mode=value)
                self.refused(InvalidRule, function, SOLD, value)
                self.refused(InvalidRule, function, SOLD, value, mode=value)
                self.refused(InvalidMode, function, SOLD, RULE, mode=value)
            self.refused(InvalidRule, function, SOLD, parted, mode=None)
            self.refused(InvalidRule, function, PLAIN, RULE, mode=None)
            self.refused(InvalidRule, function, SHOP, SALES["towns"][0])

    def test_what_15_3_needs(self):
        filtered, clash = Rule((), Place("order", "o", "b"), +Place("buyer", "b", "t")), Rule((), Place("buyer", 1, 2), Place("buyer", 1, 3))
        later = Rule((), Place("t", "x", 1), Place("t", "x", 2))
        keyed = Scheme(Table("t", 2, key=(0,)), Table("s", 1))
        for function in (classes, lambda scheme, rule, **more: is_classes(scheme, rule, None, **more)):
            for rule in (filtered, clash):
                for mode in MODES:
                    self.refused(InvalidOperation, function, SOLD, rule, mode=mode)
                self.refused(InvalidMode, function, SOLD, rule, mode="answer")
            # A key with the scope "living" is in the way in answers alone, also if the rule has no place of its table.
            for rule in (Rule((), Place("t", "x", "y")), Rule((), Place("s", "x"))):
                self.refused(InvalidOperation, function, keyed, rule)
                function(keyed, rule, mode="numbers")
            for mode in MODES:
                self.refused(InvalidOperation, function, keyed, later, mode=mode)
                function(PLAIN, later, mode=mode)
            self.refused(InvalidMode, function, keyed, Rule((), Place("s", "x")), mode="Answers")


if __name__ == "__main__":
    unittest.main()
