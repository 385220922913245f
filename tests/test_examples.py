"""The examples of the document, word for word.

Each pair of lines is what is typed and what is told; "raises X" stands for an error. What is told is computed, too, so
that it is compared as a value.
"""

import unittest

from goneunseen import errors
from goneunseen.ask.answers import answers, matches, numbers
from goneunseen.ask.places import Place, fits, row_at
from goneunseen.ask.programs import Program, below, origins, unfolded
from goneunseen.ask.rules import Rule, tables_fit
from goneunseen.ask.spots import Spots
from goneunseen.ask.tallies import Tally
from goneunseen.base.bases import Base
from goneunseen.desk.desk import Desk
from goneunseen.desk.journal import Journal
from goneunseen.faith.checks import check_answers, check_paper, is_check_paper, is_faithful_check, misleads_check
from goneunseen.faith.faithful import faith_paper, is_faithful, misled_views, misleads
from goneunseen.frozen.cores import core, is_core, unreferred
from goneunseen.frozen.derivations import derivation, is_derivation, rows_behind
from goneunseen.frozen.folds import match_of
from goneunseen.frozen.frozen import carried, frozen, is_frozen
from goneunseen.least.classes import classes, is_classes
from goneunseen.least.filters import (
    fewest, is_fewest, is_least_paper, is_mending, is_needy, is_tight, least_paper, needy_sets, tight_sets)
from goneunseen.least.resting import is_loosest, is_resting, loosest, rests_on
from goneunseen.scheme.schemes import Scheme
from goneunseen.scheme.tables import Table
from goneunseen.store.histories import history_to, is_history, is_history_to, run, steps
from goneunseen.store.returns import is_hindrance, is_return, is_tight_return, return_paper
from goneunseen.store.stores import Store
from goneunseen.text.columns import base_columns, in_columns
from goneunseen.text.formats import (
    format_base, format_history, format_program, format_scheme, parse_base, parse_history, parse_program, parse_rule, parse_scheme)
from goneunseen.text.shell import Shell
from tests.values import DAY, SALES, SHOP, Case

KNOWN = {
    "SHOP": SHOP, "DAY": DAY, "Table": Table, "Scheme": Scheme, "Base": Base, "Store": Store, "run": run, "steps": steps,
    "is_history": is_history, "history_to": history_to, "is_history_to": is_history_to, "return_paper": return_paper,
    "is_return": is_return, "is_tight_return": is_tight_return, "is_hindrance": is_hindrance, "Place": Place,
    "row_at": row_at, "fits": fits, "Rule": Rule, "tables_fit": tables_fit, "SALES": SALES, "Program": Program, "Spots": Spots,
    "unfolded": unfolded, "origins": origins, "below": below, "Tally": Tally, "answers": answers, "numbers": numbers,
    "matches": matches, "frozen": frozen, "is_frozen": is_frozen, "carried": carried, "rows_behind": rows_behind,
    "derivation": derivation, "is_derivation": is_derivation, "match_of": match_of, "core": core, "is_core": is_core,
    "unreferred": unreferred, "faith_paper": faith_paper, "is_faithful": is_faithful, "misled_views": misled_views, "misleads": misleads,
    "check_answers": check_answers, "misleads_check": misleads_check, "check_paper": check_paper, "is_check_paper": is_check_paper,
    "is_faithful_check": is_faithful_check, "fewest": fewest, "least_paper": least_paper, "tight_sets": tight_sets,
    "needy_sets": needy_sets, "is_mending": is_mending, "is_tight": is_tight, "is_fewest": is_fewest, "is_needy": is_needy,
    "is_least_paper": is_least_paper, "classes": classes, "is_classes": is_classes, "rests_on": rests_on,
    "is_resting": is_resting, "loosest": loosest, "is_loosest": is_loosest, "Journal": Journal, "Desk": Desk,
    "format_scheme": format_scheme, "format_base": format_base, "format_history": format_history, "format_program": format_program,
    "parse_scheme": parse_scheme, "parse_rule": parse_rule, "parse_history": parse_history, "parse_base": parse_base,
    "parse_program": parse_program, "in_columns": in_columns, "base_columns": base_columns, "Shell": Shell}

TABLES_AND_SCHEMES = """
>>> [SHOP.names, SHOP["order"].refers, SHOP["order"].told((5, 1), 0), SHOP["buyer"].key_of((1, 10)), "buyers" in SHOP]
[('buyer', 'order', 'item'), (((1,), 'buyer'),), (1,), (1,), False]
>>> lax = SHOP.without(("all", "buyer"))
>>> [lax["buyer"].scope, lax.within(SHOP), SHOP.within(lax), lax.with_rule(("all", "buyer")) == SHOP, Table.is_key((0, 0), 2)]
['living', True, False, True, False]
"""
BASES = """
>>> [DAY.size, DAY.living("order"), DAY.gone("order"), DAY["item", (5, 200)], ("buyer", (3, 30)) in DAY, DAY.alive().size]
[10, ((5, 1), (6, 2)), {(5, 3): 1, (7, 3): 1}, (False, 1), True, 6]
>>> Base(SHOP, living={"buyer": ((1, 10),)}, gone={"buyer": ((1, 11),)})
raises BrokenRule
>>> Base(SHOP, gone={"order": ((5, 1), (5, 1), (5, 2))}).gone("order")
{(5, 1): 2, (5, 2): 1}
"""
STORES = """
>>> store = Store(SHOP)
>>> [store.put("buyer", (1, 10)), store.put("order", (5, 1)), store.take("buyer", (1, 10), along=True), store["order", (5, 1)]]
[(('put', 'buyer', (1, 10)),), (('put', 'order', (5, 1)),), (('take', 'order', (5, 1)), ('take', 'buyer', (1, 10))), 'gone']
>>> store.put("buyer", (1, 20))
raises KeyTaken
>>> [store.mark("buyer", (1, 10), "living"), store.put("order", (5, 1)), store.base["order", (5, 1)], store.purge_all()]
[(('back', 'buyer', (1, 10)),), (('put', 'order', (5, 1)),), (True, 1), (('purge', 'order', (5, 1)),)]
"""
HISTORIES = """
>>> some = (("put", "buyer", (1, 10)), ("take", "buyer", (1, 10)), ("back", "buyer", (1, 10)), ("put", "order", (5, 1)))
>>> [run(SHOP, some).size, [base.size for base in steps(SHOP, some)], is_history(SHOP, some[1:]), is_history_to(run(SHOP, some), some)]
[2, [1, 1, 1, 2], False, True]
>>> run(SHOP, some[2:])
raises Stopped
"""
RETURNS = """
>>> broken = Base(SHOP, gone={"buyer": ((3, 30),), "order": ((5, 3), (5, 4)), "item": ((5, 100),)})
>>> return_paper(broken, "item", (5, 100))
('back', (('back', 'buyer', (3, 30)), ('back', 'order', (5, 3)), ('back', 'item', (5, 100))))
>>> [is_return(DAY, "item", (5, 200), (("back", "item", (5, 200)),)), return_paper(DAY, "order", (5, 3))]
[True, ('hindered', (('order', (5, 3), ('taken', (5, 1))),))]
"""
PLACES_AND_RULES = """
>>> place = Place("order", "o", 5)
>>> [str(+place), ~~place == place, len(place), place.variables, (+place).filtered]
['+order(o, 5)', True, 2, ('o',), True]
>>> rule = Rule(("o",), place) & +Place("item", "o", "p")
>>> [str(rule), rule.integers, -place in rule, ~place in rule]
['(o) if order(o, 5), +item(o, p)', (5,), True, False]
>>> [row_at(place, {"o": 9}), fits(place, (7, 5), {"p": 1}), fits(place, (7, 6), {}), fits(place, (7, 5), {"o": 8})]
[(9, 5), {'o': 7, 'p': 1}, None, None]
>>> Rule(("x",), Place("order", "o", 5))
raises InvalidRule
"""
PROGRAMS = """
>>> [SALES.names, str(SALES.free), "towns" in SALES, str(below(SALES, "towns"))]
[('bought', 'parts', 'towns'), '{bought 0 0, bought 0 1, parts 0 1}', True, '{bought 0 0, bought 0 1, bought 0 2}']
>>> [str(rule) for rule in unfolded(SALES, "towns")]
['(a) if order(b, c), buyer(c, a), +item(b, d)']
>>> [str((SALES + Spots(("parts", 0, 1)))["parts"][0]), Spots(("parts", 0, 1)).within(SALES.free)]
['(p) if +item(o, p), +order(o, b)', True]
"""
ANSWERS = """
>>> [answers(SALES, "bought", DAY), answers(SALES, "bought", DAY, living=True), SALES(DAY)["towns"]]
[((10, 100), (20, 100), (30, 100)), ((10, 100), (20, 100)), ((10,), (20,), (30,))]
>>> told = numbers(SALES, "parts", DAY) - numbers(SALES, "parts", DAY, living=True)
>>> [str(told), str(2 * told + Tally({(7,): 1})), told[(100,)], told.within(numbers(SALES, "parts", DAY)), (200,) in told, bool(told - told)]
['(100) * 1', '(7) * 1, (100) * 2', 1, True, False, False]
>>> list(matches(SHOP, SALES["parts"][0], DAY))
[(((5, 100), True), ((5, 1), True)), (((5, 100), True), ((5, 3), False)), (((6, 100), True), ((6, 2), True))]
"""
FROZEN = """
>>> base, places, head = frozen(SHOP, SALES["parts"][0])
>>> [base.size, [len(base.living(name)) for name in SHOP.names], [is_living for row, is_living in places], sum(base.gone("order").values())]
[4, [1, 1, 1], [True, False], 1]
>>> rule = (SALES + Spots(("bought", 0, 0)))["bought"][0] & +Place("order", "o", 7)
>>> base, places, head = frozen(SHOP, rule, avoid=(0, 1))
>>> [places[1][0][0], places[1][1], places[0] == places[3], head[0] == places[1][0][1], base.size]
[7, True, True, True, 3]
>>> value = frozen(SHOP, SALES["parts"][0])
>>> [carried(SHOP, SALES["parts"][0], value, DAY, match)[value[2][0]] for match in matches(SHOP, SALES["parts"][0], DAY)]
[100, 100, 100]
"""
DERIVATIONS = """
>>> rows_behind(SHOP, SALES["parts"][0], (("refers", 0, 0),))
(('item', ('o', 'p'), True), ('order', ('o', 'b'), False), ('order', ('o', '1'), True))
>>> is_derivation(SALES, "parts", 0, ((("refers", 0, 0),), ("fold", 0, (0, 2))))
True
>>> filtered = SALES + Spots(("bought", 0, 0))
>>> right = ((("refers", 0, 0), ("same", 1, 3)), ("living",))
>>> [is_derivation(filtered, "bought", 0, right, mode=mode) for mode in ("answers", "numbers")] + [is_derivation(SALES, "bought", 0, right)]
[True, True, False]
"""
CORES = """
>>> [match_of(SHOP, SALES["parts"][0], DAY, (100,), living=True) is None, match_of(SHOP, SALES["parts"][0], DAY, (200,), living=True)]
[False, None]
>>> rule = Rule(("o",), Place("item", "o", "p"), Place("item", "o", "q"))
>>> (base, places, head), fold, rows = core(SHOP, rule)
>>> [base.size, [table for table, row in rows], [table for table, row in unreferred(SHOP, rows)], fold[head[0]] == head[0]]
[4, ['buyer', 'order', 'item'], ['item'], True]
"""
FAITHFUL = """
>>> paper = faith_paper(SALES, "bought")
>>> [paper.verdict, paper.shows(SALES, "bought"), paper.shows(SALES + Spots(("bought", 0, 0)), "bought"), misleads(SALES, "bought", run(SHOP, paper.history))]
['misled', True, False, True]
>>> [is_faithful(SALES, name) for name in SALES.names] + [is_faithful(SALES, "parts", mode="numbers"), misleads(SALES, "parts", DAY, mode="numbers")]
[False, True, False, False, True]
"""
CHECKS = """
>>> idle = Rule(("b", "t"), +Place("buyer", "b", "t"), without=((Place("order", "o", "b"),),))
>>> quiet = Base(SHOP, living={"buyer": ((1, 10),)}, gone={"order": ((5, 1),)})
>>> [check_answers(SHOP, idle, quiet), check_answers(SHOP, idle, quiet, living=True), check_paper(SHOP, idle)[0]]
[(), ((1, 10),), 'misled']
>>> lone = Rule(("b", "t"), +Place("buyer", "b", "t"), without=((+Place("order", "o", "b"),),))
>>> is_check_paper(SHOP, lone, ("faithful", (((), ("there", (0,))), ((), ("barred", 0, (1,))))))
True
"""
FILTERS = """
>>> [str(fewest(SALES, name)) for name in SALES.names] + [str(fewest(SALES, "parts", mode="numbers"))]
['{bought 0 0}', '{}', '{bought 0 0}', '{parts 0 1}']
>>> loops = Rule((), Place("g", "x", "k"), Place("g", "x", "l"), Place("r", "k", "l"), Place("r", "k", "k"))
>>> grid = Program(Scheme(Table("g", 2, key=(0,)), Table("r", 2)), v=loops)
>>> [[str(spots) for spots in tight_sets(grid, "v")], [str(spots) for spots in needy_sets(grid, "v")]]
[['{v 0 0, v 0 1, v 0 2}', '{v 0 0, v 0 3}'], ['{v 0 0}', '{v 0 1, v 0 3}', '{v 0 2, v 0 3}']]
>>> firm = Scheme(Table("buyer", 2, key=(0,), scope="all"), Table("order", 2, refers=(((1,), "buyer"),)))
>>> rule = Rule((), Place("buyer", "c", "u"), Place("order", "o", "b"), Place("buyer", "b", "t"))
>>> [is_classes(firm, rule, ((1,),)), is_classes(firm, rule, ((0,), (1,)), mode="numbers"), is_classes(firm, rule, ((2,),))]
[True, True, False]
"""
RESTING = """
>>> filtered = SALES + Spots(("bought", 0, 0))
>>> list(rests_on(filtered, "bought"))
[('all', 'buyer'), ('refers', 'order', (1,), 'buyer')]
>>> [loosest(filtered, "bought").rules, is_loosest(SALES, "parts", SHOP)]
[(('all', 'buyer'), ('key', 'buyer', (0,)), ('refers', 'order', (1,), 'buyer')), False]
>>> rests_on(SALES, "bought")
raises Misled
"""
DESKS = """
>>> desk = Desk(SHOP, policy="mend")
>>> [str(desk.define("who", SALES, "bought")), str(desk.define("what", SALES, "parts")), desk.do_all((("put", "buyer", (1, 10)), ("put", "order", (5, 1))))[1]]
['{bought 0 0}', '{}', ('put', 'order', (5, 1))]
>>> [desk.log[1:], desk.undo(), desk.set_policy("strict"), len(desk), desk.undone]
[(('define', 'what'), ('do', (('put', 'buyer', (1, 10)), ('put', 'order', (5, 1))))), (('do', (('put', 'buyer', (1, 10)), ('put', 'order', (5, 1)))),), {}, 0, ()]
>>> desk.define("towns", SALES, "towns")
raises Misled
"""
TEXTS = """
>>> [format_scheme(SHOP).split("\\n")[1], base_columns(DAY, "order").split("\\n")[:2], in_columns((("ab", "c"), ("d", "efgh")), sides=">^", fill=".", between="|")]
['order 2 key 0 living refers 1 buyer', ['5 1 living 1', '5 3 gone   1'], 'ab|.c..\\n.d|efgh']
>>> shell = Shell(SHOP)
>>> list(shell.results(("put buyer 1,10", "define all towns answers towns: (t) if buyer(b, t)", "take buyer 1,10", "tell all", "surplus all")))
['put buyer 1,10', '{}', 'take buyer 1,10', '10', '10']
>>> [shell.do("show buyer"), shell.log[2:]]
['1 10 gone 1', ('take buyer 1,10',)]
"""


class Examples(Case):
    def check(self, text):
        """Runs the lines of an example one after another, as the document shows them."""
        known, typed = dict(KNOWN), None
        for line in text.strip().split("\n"):
            if line.startswith(">>> "):
                if typed is not None:
                    exec(typed, known)
                typed = line[4:]
            elif line.startswith("raises "):
                self.refused(getattr(errors, line[7:]), eval, typed, known)
                typed = None
            else:
                told = eval(typed, known)
                self.assertEqual(repr(told), line)
                self.assert_same(told, eval(line))
                typed = None
        self.assertIsNone(typed)

    def test_tables_and_schemes(self):
        self.check(TABLES_AND_SCHEMES)

    def test_bases(self):
        self.check(BASES)

    def test_stores(self):
        self.check(STORES)

    def test_histories(self):
        self.check(HISTORIES)

    def test_returns(self):
        self.check(RETURNS)

    def test_places_and_rules(self):
        self.check(PLACES_AND_RULES)

    def test_programs(self):
        self.check(PROGRAMS)

    def test_answers(self):
        self.check(ANSWERS)

    def test_frozen(self):
        self.check(FROZEN)

    def test_derivations(self):
        self.check(DERIVATIONS)

    def test_cores(self):
        self.check(CORES)

    def test_faithful(self):
        self.check(FAITHFUL)

    def test_checks(self):
        self.check(CHECKS)

    def test_filters(self):
        self.check(FILTERS)

    def test_resting(self):
        self.check(RESTING)

    def test_desks(self):
        self.check(DESKS)

    def test_texts(self):
        self.check(TEXTS)


if __name__ == "__main__":
    unittest.main()
