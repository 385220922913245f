"""[0.16], [14.1] to [14.4], stage 14: checks."""

import math
import random
import unittest

from goneunseen.ask.places import Place
from goneunseen.ask.rules import Rule
from goneunseen.base.bases import Base
from goneunseen.errors import InvalidBase, InvalidOperation, InvalidRule, InvalidScheme, TooMany
from goneunseen.faith.checks import check_answers, check_paper, is_check_paper, is_faithful_check, misleads_check
from goneunseen.scheme.schemes import Scheme
from goneunseen.scheme.tables import Table
from goneunseen.store.histories import history_to, is_history, run
from tests.freezing import chains, freeze, rows_after, with_integers
from tests.oracle import some_schemes
from tests.values import DAY, SALES, SHOP, Case, wrong_values
from tests.views import random_base, random_terms, told_matches

PLAIN = Scheme(Table("t", 2), Table("s", 1))
KEYS = Scheme(Table("k", 2, key=(0,)), Table("a", 2, key=(0,), scope="all"), Table("f", 2, refers=(((0,), "k"),)))
S, T = Place("s", "x"), Place("t", "x", "y")
T_OF_F = Place("f", "u", "v")
IDLE = Rule(("b", "t"), +Place("buyer", "b", "t"), without=((Place("order", "o", "b"),),))
LONE = Rule(("b", "t"), +Place("buyer", "b", "t"), without=((+Place("order", "o", "b"),),))
QUIET = Base(SHOP, living={"buyer": ((1, 10),)}, gone={"order": ((5, 1),)})
RIGHT = ("faithful", (((), ("there", (0,))), ((), ("barred", 0, (1,)))))


def singles(many):
    return tuple((number,) for number in range(many))


def numbers_of(rule, match, places):
    return {term: part for place, pair in zip(places, match) for term, part in zip(place.terms, pair[0]) if isinstance(term, str)}


def told(rule, base, living):
    """The answers of a check: each match of its places is held against each match of each part."""
    found = set()
    for match in told_matches(Rule.of((), rule.places), base, living):
        values = numbers_of(rule, match, rule.places)
        barred = False
        for part in rule.parts:
            for other in told_matches(Rule.of((), part), base, living):
                inner = numbers_of(rule, other, part)
                barred = barred or all(values.get(name, part) == part for name, part in inner.items())
        if not barred:
            found.add(tuple(values.get(term, term) for term in rule.head))
    return tuple(sorted(found))


def check_size(rule, base):
    """How many lists of rows the slow way goes over."""
    many = [math.prod(len(base.living(place.source)) + len(base.gone(place.source)) for place in places) for places in (rule.places, *rule.parts)]
    return many[0] * max(many[1:])


def cases(rule):
    """The rules that the cases freeze."""
    living = [+place for place in rule.places]
    return [Rule.of(rule.head, rule.places), *[Rule.of(rule.head, (*living, *part)) for part in rule.parts]]


def is_misled(dice, scheme, rule):
    for case in cases(rule):
        found = freeze(dice, scheme, case)
        if found is not None:
            base, _, _ = with_integers(dice, scheme, case, found, rule.integers)
            if told(rule, base, False) != told(rule, base, True):
                return True
    return False


def judged(scheme, rule, case, value):
    """Whether a pair of steps and an ending, of the right forms, is a right derivation for a case."""
    steps, ending = value
    rows = rows_after(scheme, cases(rule)[case], steps)
    if rows is None:
        return False
    if rows.is_empty() or ending == ("empty",):
        return rows.is_empty() and ending == ("empty",)
    places = rule.places if ending[0] == "there" else rule.parts[ending[1]]
    numbers = ending[-1]
    if ending[0] == "there" and case > 0:
        return False
    values = {}
    for place, number in zip(places, numbers):
        if not 0 <= number < len(rows.rows) or rows.rows[number][0] != place.source:
            return False
        needs_living = ending[0] == "there" or case > 0 or place.filtered
        if needs_living and not rows.is_living(number):
            return False
        for term, wanted in zip(place.terms, rows.rows[number][1]):
            if isinstance(term, str) and term not in rule.variables:
                term = values.setdefault(term, wanted)
            if not rows.same(term, wanted):
                return False
    return True


def random_check(dice, scheme):
    """A rule with parts."""
    while True:
        def place(names):
            table = dice.choice(list(scheme))
            return Place(table.name, *random_terms(dice, table.width, names), filtered=dice.random() < 0.5)
        places = [place("xy") for _ in range(dice.choice((1, 1, 2)))]
        names = sorted({name for one in places for name in one.variables})
        parts = tuple(tuple(place("xyz") for _ in range(dice.choice((1, 1, 2)))) for _ in range(dice.choice((1, 1, 2, 3))))
        head = [*names, *dice.choice(([], [], [1], names[:1]))]
        dice.shuffle(head)
        if len(head) <= 4:
            return Rule(tuple(head), *places, without=parts)


class Answers(Case):
    def check(self, scheme, rule, base):
        for living in (False, True):
            self.assert_same(check_answers(scheme, rule, base, living=living), told(rule, base, living))
        self.assertEqual(check_answers(scheme, rule, base), told(rule, base, False))
        self.assertIs(misleads_check(scheme, rule, base), told(rule, base, False) != told(rule, base, True))
        return check_answers(scheme, rule, base), check_answers(scheme, rule, base, living=True)

    def test_shared_and_own_variables(self):
        base = Base(PLAIN, living={"s": singles(4), "t": ((0, 0), (1, 2), (7, 3))}, gone={"t": ((3, 1),), "s": ((9,),)})
        for part, expected in (
                ((Place("t", "x", "z"),), ((2,), (9,))), ((Place("t", "z", "x"),), ((9,),)), ((Place("t", "x", "x"),), ((1,), (2,), (3,), (9,))),
                ((Place("t", "u", "v"),), ()), ((Place("t", 5, "v"),), ((0,), (1,), (2,), (3,), (9,))), ((+Place("t", "x", "z"),), ((2,), (3,), (9,))),
                ((Place("t", "x", "z"), Place("t", "z", "w")), ((1,), (2,), (9,))), ((Place("t", "u", 3), Place("s", "x")), ())):
            everything, _ = self.check(PLAIN, Rule(("x",), S, without=(part,)), base)
            self.assertEqual(everything, expected, [str(place) for place in part])

    def test_own_variables_of_two_parts(self):
        base = Base(PLAIN, living={"s": singles(3), "t": ((0, 1), (5, 2))})
        rule = Rule(("x",), S, without=((Place("t", "x", "z"),), (Place("t", "z", "x"),)))
        self.assertEqual(self.check(PLAIN, rule, base), ((), ()))
        rule = Rule(("x",), S, without=((Place("t", "x", "z"), Place("t", "z", "x")),))
        self.assertEqual(self.check(PLAIN, rule, base), (((0,), (1,), (2,)),) * 2)

    def test_both_are_from_the_living_rows(self):
        base = Base(PLAIN, living={"s": singles(2)}, gone={"s": ((2,),), "t": ((0, 0),)})
        rule = Rule(("x",), S, without=((T,),))
        self.assertEqual(self.check(PLAIN, rule, base), (((1,), (2,)), ((0,), (1,))))
        rule = Rule(("x",), +S, without=((+T,),))
        self.assertEqual(self.check(PLAIN, rule, base), (((0,), (1,)),) * 2)

    def test_heads(self):
        base = Base(PLAIN, living={"t": ((0, 1), (1, 1)), "s": ((1,),)})
        rule = Rule(("y", 7, "x", "y"), T, without=((Place("s", "x"),),))
        self.assertEqual(self.check(PLAIN, rule, base)[0], ((1, 7, 0, 1),))
        rule = Rule((), Place("s", 1), without=((Place("t", 0, 0),),))
        self.assertEqual(self.check(PLAIN, rule, base)[0], ((),))
        rule = Rule((7,), Place("s", 1), without=((Place("t", 0, 1),),))
        self.assertEqual(self.check(PLAIN, rule, base)[0], ())

    def test_too_many(self):
        # 36 * 36 * 38 is below 50000, 37 * 37 * 37 above.
        two, part = (Place("s", "x"), Place("s", "y")), (Place("s", "z"),)
        rows = Base(PLAIN, living={"s": singles(36)})
        self.assertEqual(check_answers(PLAIN, Rule(("x", "y"), *two, without=(part,)), rows), ())
        self.assertIs(misleads_check(PLAIN, Rule(("x", "y"), *two, without=(part,)), rows), False)
        # A row that is living and gone counts once.
        twice = Base(PLAIN, living={"s": singles(36)}, gone={"s": singles(36) + singles(20)})
        self.assertEqual(check_answers(PLAIN, Rule(("x", "y"), *two, without=(part,)), twice), ())
        three = Rule(("x", "y", "z"), *two, *part, without=((Place("t", "x", "y"),),))
        together = Rule(("x", "y"), *two, without=((Place("t", "x", "y"),), part))
        for base in (Base(PLAIN, living={"s": singles(37)}), Base(PLAIN, living={"s": singles(30)}, gone={"s": singles(37)})):
            # The places alone, though a part has no rows; only one part; and only the second one.
            for rule in (three, Rule(("x", "y"), *two, without=(part,)), together):
                for living in (False, True):
                    self.refused_with(TooMany, {"limit": 50000}, check_answers, PLAIN, rule, base, living=living)
                self.refused_with(TooMany, {"limit": 50000}, misleads_check, PLAIN, rule, base)
        # Parts count each for itself, and not without the places.
        parts = ((Place("s", "u"),), (Place("s", "v"),), (Place("s", "w"),))
        self.assertEqual(check_answers(PLAIN, Rule(("x", "y"), *two, without=parts), rows), ())
        empty = Rule(("x", "y"), T, without=((S, Place("s", "a"), Place("s", "b"), Place("s", "c"), Place("s", "d")),))
        self.assertEqual(check_answers(PLAIN, empty, Base(PLAIN, living={"s": singles(100)})), ())

    def test_many_places(self):
        # Up to six places together, with variables that are needed later, or never again.
        dice = random.Random(70)
        seen = 0
        for scheme in some_schemes()[:4]:
            for _ in range(60):
                tables, many = list(scheme), dice.randint(1, 3)

                def places(many, names):
                    chosen = [dice.choice(tables) for _ in range(many)]
                    return tuple(Place(table.name, *random_terms(dice, table.width, names), filtered=dice.random() < 0.4) for table in chosen)
                inner = places(many, "xyz"[:dice.randint(1, 3)])
                names = sorted({name for place in inner for name in place.variables})
                rule = Rule.of(tuple(names), inner, without=(places(dice.randint(1, min(3, 6 - many)), [*names, "v", "w"]),))
                base = random_base(dice, scheme)
                if check_size(rule, base) < 1500:
                    everything, _ = self.check(scheme, rule, base)
                    seen += bool(everything)
        self.assertGreater(seen, 40)

    def test_random_checks(self):
        dice = random.Random(71)
        seen = [0, 0, 0]
        for scheme in some_schemes():
            for _ in range(150):
                rule, base = random_check(dice, scheme), random_base(dice, scheme)
                everything, living = self.check(scheme, rule, base)
                seen[0] += bool(set(everything) - set(living))
                seen[1] += bool(set(living) - set(everything))
                seen[2] += bool(everything)
        self.assertGreater(min(seen), 15)


class Papers(Case):
    def check(self, scheme, rule, expected):
        """Everything that is told of a check agrees with whether it is misled."""
        paper = check_paper(scheme, rule)
        self.assertEqual(paper[0], "misled" if expected else "faithful")
        self.assertIs(is_check_paper(scheme, rule, paper), True)
        self.assertIs(is_faithful_check(scheme, rule), not expected)
        self.assertIs(type(paper), tuple)
        if expected:
            self.assertLessEqual(len(paper[1]), 120)
            base = run(scheme, paper[1])
            self.assertIs(misleads_check(scheme, rule, base), True)
            self.assertIn(paper[2], set(told(rule, base, False)) ^ set(told(rule, base, True)))
        else:
            self.assertEqual(len(paper[1]), 1 + len(rule.parts))
        return paper

    def test_the_shop(self):
        self.check(SHOP, IDLE, True)
        self.assertEqual(self.check(SHOP, LONE, False), RIGHT)

    def test_too_many_and_too_few(self):
        for rule, expected in (
                (Rule(("x",), S, without=((+T,),)), True), (Rule(("x",), +S, without=((T,),)), True), (Rule(("x",), +S, without=((+T,),)), False),
                (Rule(("x",), S, without=((S,),)), False), (Rule(("x",), S, without=((+S,),)), True), (Rule(("x",), S, +S, without=((T,), (+T,))), True),
                (Rule(("x",), +S, without=((T,), (+S,))), False), (Rule(("x",), S, without=((T,), (Place("s", "z"),))), False)):
            self.check(PLAIN, rule, expected)

    def test_cases_freeze_on_their_own(self):
        # In case 1 the places are living, so that the free place of the part becomes one with a living row.
        rule = Rule(("x", "y"), Place("k", "x", "y"), without=((Place("k", "x", "z"), +Place("f", "x", "w")), (Place("k", "x", "y"),)))
        self.assertEqual([word for _, (word, *_) in self.check(KEYS, rule, False)[1]], ["barred", "barred", "barred"])
        clash = Rule(("x",), +Place("k", "x", 1), without=((+Place("k", "x", 2), T_OF_F),))
        self.assertEqual([ending[0] for _, ending in self.check(KEYS, clash, False)[1]], ["there", "empty"])
        clash = Rule(("x",), Place("a", "x", 1), Place("a", "x", 2), without=((T_OF_F,),))
        self.assertEqual([ending for _, ending in self.check(KEYS, clash, False)[1]], [("empty",), ("empty",)])

    def test_an_empty_case_does_not_hide_another(self):
        # Frozen as living the places are empty, frozen as they are they are not.
        rule = Rule(("x",), Place("k", "x", 1), Place("k", "x", 2), without=((T_OF_F,),))
        paper = self.check(KEYS, rule, True)
        self.assertEqual(len(paper[2]), 1)

    def test_integers_of_all_parts_are_avoided(self):
        for number in range(4):
            rule = Rule(("x", "y"), T, +S, without=((Place("s", number),), (Place("t", number, number),)))
            paper = self.check(PLAIN, rule, True)
            self.assertNotIn(number, [part for command in paper[1] for part in command[2]])

    def test_six_places(self):
        many = [Place("s", name) for name in "abcd"]
        for places, part in ((many, (Place("t", "a", "b"), Place("t", "c", "d"))), (many[:1], tuple(Place("t", "a", name) for name in "bcdef"))):
            head = tuple(place.terms[0] for place in places)
            self.check(PLAIN, Rule(head, *places, without=(part,) * 3), True)
            self.check(PLAIN, Rule(head, *[+place for place in places], without=(tuple(+place for place in part),) * 3), False)
            self.check(PLAIN, Rule(head, *[+place for place in places], without=(part,) * 3), True)

    def test_120_commands(self):
        scheme = Scheme(
            Table("a", 1, key=(0,)), Table("b", 1, key=(0,), refers=(((0,), "a"),)), Table("c", 1, key=(0,), refers=(((0,), "b"),)),
            Table("d", 2, refers=(((0,), "c"), ((1,), "c"))))
        head = ("a", "u", "b", "v")
        # Six copies, of which one bears nothing upon the others.
        rule = Rule(head, *[Place("d", x, y) for x, y in ("au", "bv", "av", "bu", "ab")], without=((+Place("d", 1, 1),),))
        self.assertEqual(len(self.check(scheme, rule, True)[1]), 100)
        rule = Rule(("x",), +Place("a", "x"), without=(tuple(Place("d", x, y) for x, y in zip("abcde", "vwyzu")),))
        paper = self.check(scheme, rule, True)
        self.assertEqual(len(paper[1]), 101)

    def test_one_and_only_one_of_two(self):
        dice = random.Random(72)
        seen = {}
        for scheme in [*some_schemes(), *chains()]:
            for _ in range(60):
                rule = random_check(dice, scheme)
                expected = is_misled(dice, scheme, rule)
                paper = self.check(scheme, rule, expected)
                seen[paper[0]] = seen.get(paper[0], 0) + 1
                if not expected:
                    for _, ending in paper[1]:
                        seen[ending[0]] = seen.get(ending[0], 0) + 1
                    for _ in range(3):
                        base = random_base(dice, scheme)
                        self.assertEqual(told(rule, base, False), told(rule, base, True))
                        if base.size <= 60:
                            history = history_to(base)
                            for answer in [*told(rule, base, False)[:2], (0,) * len(rule.head)]:
                                self.assertIs(is_check_paper(scheme, rule, ("misled", history, answer)), False)
        self.assertGreater(min(seen.values()), 20)
        self.assertEqual(sorted(seen), ["barred", "faithful", "misled", "there"])

    def test_filters_as_14_4_says(self):
        dice = random.Random(73)
        seen = 0
        for scheme in some_schemes():
            for _ in range(40):
                rule = random_check(dice, scheme)
                filtered = Rule.of(rule.head, tuple(+place for place in rule.places), without=rule.parts)
                if is_faithful_check(scheme, rule):
                    self.assertIs(is_faithful_check(scheme, filtered), True)
                    seen += 1
                everything = Rule.of(rule.head, filtered.places, without=tuple(tuple(+place for place in part) for part in rule.parts))
                self.assertIs(is_faithful_check(scheme, everything), True)
                if is_faithful_check(scheme, filtered):
                    parts = tuple(tuple(+place if dice.random() < 0.5 else place for place in part) for part in rule.parts)
                    self.assertIs(is_faithful_check(scheme, Rule.of(rule.head, filtered.places, without=parts)), True)
        self.assertGreater(seen, 20)


class Judging(Case):
    def check_case(self, scheme, rule, case, derivations, pairs):
        """In one case each of the values is put among right derivations for the others."""
        for value, expected in pairs:
            some = tuple(value if at == case else other for at, other in enumerate(derivations))
            self.assertIs(is_check_paper(scheme, rule, ("faithful", some)), expected, value)

    def test_endings_in_case_0(self):
        rule = Rule(("x", "y"), +T, T, without=((+Place("s", "x"),),))
        first, second = ((), ("there", (0, 0))), ((), ("barred", 0, (2,)))
        self.check_case(PLAIN, rule, 0, (first, second), [(((), ending), expected) for ending, expected in (
            (("there", (0, 0)), True), (("there", (0, 1)), False), (("there", (1, 0)), False), (("there", (0,)), False),
            (("there", (0, 0, 0)), False), (("there", [0, 0]), False), (("there", (0, -2)), False), (("there", (0, 2)), False),
            (("there", (False, 0)), False), (("there",), False), (("There", (0, 0)), False), (("there", (0, 0), 0), False),
            (("living",), False), (("empty",), False), (("fold", 0, (0, 0)), False), (("barred", 0, (0,)), False), (("barred", 1, (0,)), False),
            (["there", (0, 0)], False), ((), False), (None, False), ("there", False), (("there", None), False), (("there", (0, None)), False),
            (("there", (0, "0")), False), (("barred", 0), False), (("barred", False, (0,)), False), (("barred", 0, (False,)), False))])

    def test_there_in_case_0_alone(self):
        rule = Rule(("x",), +S, without=((+Place("s", "x"),),))
        right = ((), ("barred", 0, (0,)))
        self.check_case(PLAIN, rule, 0, (right, right), [(((), ("there", (0,))), True), (right, True)])
        self.check_case(PLAIN, rule, 1, (right, right), [
            (((), ("there", (0,))), False), (((), ("there", (0, 0))), False), (right, True), (((), ("barred", 0, (1,))), True),
            (((), ("barred", 0, (2,))), False), (((("same", 0, 1),), ("barred", 0, (1,))), True), (((("same", 1, 0),), ("barred", 0, (1,))), False)])

    def test_rows_of_places_that_are_filtered(self):
        # In case 0 a free place of a part can have a row that is not living, a filtered one cannot.
        right = ((), ("barred", 0, (0,)))
        self.assertIs(is_check_paper(PLAIN, Rule(("x",), S, without=((S,),)), ("faithful", (right, right))), True)
        self.assertIs(is_check_paper(PLAIN, Rule(("x",), S, without=((+S,),)), ("faithful", (right, right))), False)
        # In other cases all rows are to be living.
        rule = Rule(("x",), +S, without=((T,),))
        self.check_case(PLAIN, rule, 1, (((), ("there", (0,))), None), [(((), ("barred", 0, (1,))), False), (((), ("barred", 0, (0,))), False)])
        self.check_case(PLAIN, Rule(("x",), +S, without=((+T,),)), 1, (((), ("there", (0,))), None), [(((), ("barred", 0, (1,))), True)])

    def test_variables(self):
        there = ((), ("there", (0,)))
        # Own variables can be given other terms, those of the places stand for themselves.
        rule = Rule(("x",), +S, without=((+Place("t", "x", "z"), Place("t", "x", "w")),))
        self.check_case(PLAIN, rule, 1, (there, None), [(((), ("barred", 0, rows)), expected) for rows, expected in (
            ((1, 1), True), ((1, 2), False), ((2, 1), False), ((1,), False), ((1, 1, 1), False))])
        rule = Rule(("x",), +S, without=((+Place("t", "z", "x"), Place("t", "x", "w")),))
        self.check_case(PLAIN, rule, 1, (there, None), [(((), ("barred", 0, (1, 1))), False)])
        # Another part has own variables of the same name.
        rule = Rule(("x",), +S, without=((+Place("t", "x", "z"), +Place("t", "z", "x")), (Place("t", "x", "z"),)))
        one, other = ((), ("barred", 1, (1,))), ((), ("barred", 0, (1, 2)))
        self.check_case(PLAIN, rule, 1, (there, one, None), [(one, False)])
        rule = Rule(("x",), +S, without=((+Place("t", "x", "z"), +Place("t", "z", "x")), (+Place("t", "z", "x"),)))
        again = ((), ("barred", 1, (1,)))
        self.check_case(PLAIN, rule, 1, (there, None, again), [
            (other, True), (((), ("barred", 1, (2,))), True), (((), ("barred", 1, (1,))), False), (((), ("barred", 2, (1,))), False),
            (((), ("barred", -1, (2,))), False), (((), ("barred", True, (2,))), False), (((), ("barred", 1, (-1,))), False),
            (((), ("Barred", 1, (2,))), False), (((), ("fold", 1, (2,))), False), (((), ("barred", 1, (2,), 0)), False)])
        # A variable that stands twice, and integers.
        rule = Rule(("x", "y"), +T, without=((+Place("t", "z", "z"),), (+Place("t", "x", 5),), (+T,)))
        right = [((), ("there", (0,))), *[((), ("barred", 2, (0,)))] * 3]
        self.assertIs(is_check_paper(PLAIN, rule, ("faithful", tuple(right))), True)
        self.check_case(PLAIN, rule, 1, right, [(((), ("barred", 0, (0,))), False), (((), ("barred", 0, (1,))), True), (((), ("barred", 1, (1,))), False)])
        self.check_case(PLAIN, rule, 2, right, [(((), ("barred", 1, (0,))), False), (((), ("barred", 1, (1,))), True), (((), ("barred", 2, (1,))), False)])

    def test_steps(self):
        clash = Rule(("x",), +Place("k", "x", 1), without=((+Place("k", "x", 2), Place("f", "u", "v")),))
        there, empty = ((), ("there", (0,))), ((("same", 0, 1),), ("empty",))
        self.check_case(KEYS, clash, 1, (there, None), [
            (empty, True), (((), ("empty",)), False), (((("same", 0, 1),), ("barred", 0, (0, 2))), False), (((("same", 0, 2),), ("empty",)), False),
            (((("same", 0, 1),), ["empty"]), False), (((("same", 0, 1),), ("empty", 0)), False), (([("same", 0, 1)], ("empty",)), False),
            ((["same", 0, 1], ("empty",)), False), (((("same", 0, 1),) * 200, ("empty",)), True), (((("same", 0, 1),) * 201, ("empty",)), False),
            (((("same", False, 1),), ("empty",)), False), ([(("same", 0, 1),), ("empty",)], False), (((("same", 0, 1),), ("empty",), 0), False)])
        # Behind a reference there is a row more.
        refers = Rule(("x", "y"), +Place("f", "x", "y"), without=((Place("k", "x", "z"),),))
        right = ((("refers", 0, 0),), ("barred", 0, (1,)))
        self.check_case(KEYS, refers, 0, (right, ((("refers", 0, 0),), ("barred", 0, (2,)))), [(right, True), (((), ("barred", 0, (1,))), False)])
        self.check_case(KEYS, refers, 1, (right, None), [
            (((("refers", 0, 0),), ("barred", 0, (2,))), True), (right, False), (((), ("barred", 0, (1,))), False)])

    def test_misled_papers(self):
        history = history_to(QUIET)
        gone = (("put", "order", (5, 1)), ("take", "order", (5, 1)))
        self.assertIs(is_check_paper(SHOP, IDLE, ("misled", history, (1, 10))), True)
        for value in (
                ("misled", history, (1, 11)), ("misled", history, (1,)), ("misled", history, (True, 10)), ("misled", history, (1, 10, 1)),
                ("misled", history, [1, 10]), ("misled", list(history), (1, 10)), ["misled", history, (1, 10)], ("misled", history), (history, (1, 10)),
                ("Misled", history, (1, 10)), ("misled", history, (1, 10), 0), ("misled", history[1:], (1, 10)), ("misled", gone, (1, 10)),
                ("misled", (), (1, 10)), ("misled", history, None), ("misled", None, (1, 10)), ("faithful", history, (1, 10)), ("misled", (history,), (1, 10)),
                ("misled", history, (1, "t")), ("misled", history, (1, 10 ** 30)), ("misled", history, ())):
            self.assertIs(is_check_paper(SHOP, IDLE, value), False, value)
        self.assertIs(is_check_paper(SHOP, LONE, ("misled", history, (1, 10))), False)
        self.assertIs(is_check_paper(SHOP.without(("refers", "order", (1,), "buyer")), IDLE, ("misled", gone + history[-1:], (1, 10))), True)
        # Told too often is as good as told too seldom.
        often = Rule(("x",), S, without=((+T,),))
        taken = (("put", "s", (1,)), ("take", "s", (1,)))
        self.assertIs(is_check_paper(PLAIN, often, ("misled", taken, (1,))), True)
        self.assertIs(is_check_paper(PLAIN, often, ("misled", taken[:1], (1,))), False)
        self.assertIs(is_check_paper(PLAIN, Rule((7, "x"), S, without=((+T,),)), ("misled", taken, (7, 1))), True)
        self.assertIs(is_check_paper(PLAIN, Rule((7, "x"), S, without=((+T,),)), ("misled", taken, (8, 1))), False)
        self.assertIs(is_check_paper(PLAIN, Rule(("x", "x"), S, without=((+T,),)), ("misled", taken, (1, 2))), False)

    def test_bases_of_60_rows_and_no_limit_to_combinations(self):
        rule = Rule(("x", "y", "z", "w"), S, +Place("s", "y"), +Place("s", "z"), +Place("s", "w"), without=((Place("t", "a", "b"), Place("t", "c", "d")),))
        taken = (("put", "s", (99,)), ("take", "s", (99,)))
        puts = tuple(("put", "s", (number,)) for number in range(60))
        self.assertIs(is_check_paper(PLAIN, rule, ("misled", taken + puts[:59], (99, 1, 2, 58))), True)
        self.assertIs(is_check_paper(PLAIN, rule, ("misled", taken + puts[:59], (3, 1, 2, 58))), False)
        self.assertIs(is_check_paper(PLAIN, rule, ("misled", taken + puts, (99, 1, 2, 58))), False)
        idle = (("put", "s", (5,)),) + (("take", "s", (5,)), ("back", "s", (5,))) * 1000
        self.assertIs(is_check_paper(PLAIN, rule, ("misled", taken + idle[:1998], (99, 5, 5, 5))), is_history(PLAIN, taken + idle[:1998]) and idle[1997][0] != "take")
        self.assertIs(is_check_paper(PLAIN, rule, ("misled", taken + idle[:1997], (99, 5, 5, 5))), True)
        self.assertIs(is_check_paper(PLAIN, rule, ("misled", taken + idle[:1999], (99, 5, 5, 5))), False)

    def test_wrong_values(self):
        for value in wrong_values():
            for paper in (
                    value, ("faithful", value), ("faithful", (value, RIGHT[1][1])), ("faithful", (RIGHT[1][0], value)), (value, RIGHT[1]),
                    ("faithful", RIGHT[1], value), ("faithful", RIGHT[1] + (value,)), ("faithful", ((value, ("there", (0,))), RIGHT[1][1])) if value != () else None,
                    ("faithful", (((), value), RIGHT[1][1])), ("faithful", (((), ("there", value)), RIGHT[1][1])), ("misled", value, (1, 10)),
                    ("misled", history_to(QUIET), value), ("misled", (value,), (1, 10))):
                self.assertIs(is_check_paper(SHOP, LONE, paper), False, paper)
        self.assertIs(is_check_paper(SHOP, LONE, RIGHT), True)
        self.assertIs(is_check_paper(SHOP, LONE, ("faithful", RIGHT[1][:1])), False)
        self.assertIs(is_check_paper(SHOP, LONE, ["faithful", RIGHT[1]]), False)
        self.assertIs(is_check_paper(SHOP, LONE, ("faithful", list(RIGHT[1]))), False)

    def test_random_values(self):
        dice = random.Random(74)
        seen = {True: 0, False: 0}
        for scheme in [*some_schemes(), *chains()]:
            for _ in range(150):
                rule = random_check(dice, scheme)
                paper = check_paper(scheme, rule)
                if paper[0] == "misled":
                    continue
                derivations = list(paper[1])
                case = dice.randrange(len(derivations))
                for _ in range(10):
                    steps = [step for step in derivations[case][0] if dice.random() < 0.9]
                    if dice.random() < 0.5:
                        steps.insert(dice.randint(0, len(steps)), (dice.choice(("same", "refers")), dice.randint(0, 4), dice.randint(0, 4)))
                    index = dice.randrange(len(rule.parts))
                    ending = dice.choice((
                        derivations[case][1], ("empty",), ("there", tuple(dice.randint(0, 2) for _ in rule.places)),
                        ("barred", index, tuple(dice.randint(0, 4) for _ in rule.parts[index])),
                        ("barred", index, tuple(dice.randint(0, 4) for _ in rule.parts[index]))))
                    some = tuple((tuple(steps), ending) if at == case else other for at, other in enumerate(derivations))
                    expected = judged(scheme, rule, case, some[case])
                    self.assertIs(is_check_paper(scheme, rule, ("faithful", some)), expected, (str(rule), case, some[case]))
                    seen[expected] += 1
        self.assertGreater(min(seen.values()), 300)


def anew(rule):
    """An equal rule of which nothing was asked yet."""
    return Rule(rule.head, *[Place.of(place.source, place.terms, filtered=place.filtered) for place in rule], without=rule.parts)


class AskedAgain(Case):
    def test_what_was_asked_before_changes_nothing(self):
        # The same rule is asked about again, in any order, under schemes that take turns, and so are equal ones.
        dice = random.Random(75)
        seen = 0
        for scheme in [*some_schemes(), *chains()]:
            schemes = [scheme, Scheme(*scheme.listed)] + [scheme.without(rule) for rule in scheme.rules if rule[0] != "key"]
            rules = [random_check(dice, scheme) for _ in range(6)]
            bases = [random_base(dice, scheme) for _ in range(3)]
            papers = [check_paper(scheme, anew(rule)) for rule in rules]
            for _ in range(150):
                at, some, base = dice.randrange(len(rules)), dice.choice(schemes), dice.choice(bases)
                rule, living = rules[at], dice.random() < 0.5
                call, more = dice.choice((
                    (is_faithful_check, ()), (check_paper, ()), (is_check_paper, (papers[at],)), (misleads_check, (base.on(some),)),
                    (lambda *args: check_answers(*args, living=living), (base.on(some),))))
                self.assert_same(call(some, rule, *more), call(some, anew(rule), *more))
                seen += some.rules != scheme.rules
            self.assertEqual(rules, [anew(rule) for rule in rules])
        self.assertGreater(seen, 300)

    def test_errors_after_answers(self):
        lax = PLAIN.with_rule(("key", "s", (0,)))
        rule = Rule(("x", "y", "z"), S, Place("s", "y"), Place("s", "z"), without=((T,),))
        few, many = Base(PLAIN, living={"s": singles(2)}), Base(PLAIN, living={"s": singles(37)})
        for _ in range(2):
            self.assertEqual(len(check_answers(PLAIN, rule, few)), 8)
            for _ in range(2):
                self.refused_with(TooMany, {"limit": 50000}, check_answers, PLAIN, rule, many)
                self.refused_with(TooMany, {"limit": 50000}, misleads_check, PLAIN, rule, many)
            self.assertEqual(len(check_answers(PLAIN, rule, few, living=True)), 8)
            self.refused(InvalidBase, check_answers, lax, rule, few)
            self.refused(InvalidRule, check_answers, SHOP, rule, few)
            self.refused(InvalidRule, check_paper, SHOP, rule)
            self.refused(InvalidScheme, is_faithful_check, None, rule)
            self.assertEqual(len(check_answers(lax, rule, few.on(lax))), 8)
            self.assertIs(is_faithful_check(lax, rule), False)

    def test_answers_of_one_base_after_another(self):
        rule = Rule(("x",), S, without=((T,), (Place("t", "z", "x"),)))
        one = Base(PLAIN, living={"s": singles(3), "t": ((0, 1),)}, gone={"t": ((2, 2),)})
        other = Base(PLAIN, living={"s": singles(3)}, gone={"s": ((5,),), "t": ((0, 0),)})
        for base, everything, living in ((one, (), ((2,),)), (other, ((1,), (2,), (5,)), ((0,), (1,), (2,)))) * 2:
            self.assertEqual(check_answers(PLAIN, rule, base), everything)
            self.assertEqual(check_answers(PLAIN, rule, base, living=True), living)
            self.assertIs(misleads_check(PLAIN, rule, base), True)
            self.assertIs(misleads_check(PLAIN, rule, base.alive()), False)


class Arguments(Case):
    def calls(self):
        return [
            lambda scheme, rule, base=DAY, living=False: check_answers(scheme, rule, base, living=living),
            lambda scheme, rule, base=DAY, living=False: misleads_check(scheme, rule, base),
            lambda scheme, rule, base=DAY, living=False: check_paper(scheme, rule),
            lambda scheme, rule, base=DAY, living=False: is_check_paper(scheme, rule, RIGHT),
            lambda scheme, rule, base=DAY, living=False: is_faithful_check(scheme, rule)]

    def test_wrong_schemes_and_rules(self):
        for call in self.calls():
            for value in wrong_values():
                if not isinstance(value, Scheme):
                    self.refused(InvalidScheme, call, value, IDLE)
                    self.refused(InvalidScheme, call, value, value, value, value)
                self.refused(InvalidRule, call, SHOP, value)
                self.refused(InvalidRule, call, SHOP, value, value, value)
            self.refused(InvalidRule, call, PLAIN, IDLE)
            self.refused(InvalidRule, call, SHOP, SALES["parts"][0])
            self.refused(InvalidRule, call, SHOP, Rule(("b", "t"), Place("buyer", "b", "t"), without=((Place("order", "o"),),)))
            self.refused(InvalidRule, call, SHOP, Rule(("b",), Place("buyer", "b"), without=((Place("order", "o", "b"),),)))
            self.refused(InvalidRule, call, SHOP, Rule(("b", "t"), Place("bought", "b", "t"), without=((Place("order", "o", "b"),),)))

    def test_wrong_bases(self):
        huge = Base(PLAIN, living={"s": singles(60)})
        rule = Rule(("x", "y", "z"), S, Place("s", "y"), Place("s", "z"), without=((T,),))
        for value in wrong_values():
            if not isinstance(value, Base) or value.scheme != PLAIN:
                self.refused(InvalidBase, check_answers, PLAIN, rule, value)
                self.refused(InvalidBase, check_answers, PLAIN, rule, value, living=value)
                self.refused(InvalidBase, misleads_check, PLAIN, rule, value)
            if value is not True and value is not False:
                self.refused(InvalidOperation, check_answers, PLAIN, rule, huge, living=value)
        self.refused(InvalidBase, check_answers, SHOP, IDLE, DAY.on(SHOP.without(("all", "buyer"))))


if __name__ == "__main__":
    unittest.main()
