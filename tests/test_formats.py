"""[18.1], stage 18: texts."""

import random
import unittest

from goneunseen.ask.places import Place
from goneunseen.ask.programs import Program
from goneunseen.ask.rules import Rule
from goneunseen.base.bases import Base
from goneunseen.errors import InvalidBase, InvalidHistory, InvalidProgram, InvalidScheme, ParseError
from goneunseen.scheme.schemes import Scheme
from goneunseen.scheme.tables import Table
from goneunseen.text.formats import (
    format_base, format_history, format_program, format_scheme, parse_base, parse_history, parse_program, parse_rule, parse_scheme)
from tests.freezing import chains
from tests.oracle import random_model, some_schemes
from tests.test_checks import random_check
from tests.values import DAY, GREAT, SALES, SHOP, TOO_GREAT, Case, wrong_values
from tests.views import random_base, random_program, random_rule

PLAIN = Scheme(Table("t", 2), Table("s", 1))
HISTORY = (("put", "buyer", (1, 10)), ("take", "buyer", (1, 10)), ("purge", "nosuch", (-GREAT,)), ("back", "a", (0, 1, -1, GREAT)))
SHOP_TEXT = "buyer 2 key 0 all\norder 2 key 0 living refers 1 buyer\nitem 2 refers 0 order"
DAY_TEXT = """buyer 1,10 living
buyer 2,20 living
buyer 3,30 gone 1
order 5,1 living
order 5,3 gone 1
order 6,2 living
order 7,3 gone 1
item 5,100 living
item 5,200 gone 1
item 6,100 living"""
SALES_TEXT = """bought: (t, p) if order(o, b), buyer(b, t), +item(o, p)
parts: (p) if +item(o, p), order(o, b)
towns: (t) if bought(t, p)"""


def spoiled(dice, text):
    """A text that is nearly this one."""
    at = dice.randint(0, len(text))
    word = dice.random()
    if word < 0.3 and at < len(text):
        return text[:at] + text[at + 1:]
    if word < 0.6:
        return text[:at] + dice.choice(" \n,+-0:()ax1") + text[at:]
    if word < 0.8 and at < len(text):
        return text[:at] + dice.choice(" \n,+-0:()ax1") + text[at + 1:]
    lines = text.split("\n")
    dice.shuffle(lines)
    return dice.choice(("\n".join(lines), text + "\n", "\n" + text, text + " ", " " + text, text.replace(" ", "  ", 1), text.upper(), text + "\n" + lines[0]))


class Texts(Case):
    def check(self, value, text, form, parse):
        """The value has this text, and what is nearly this text is that of another value, or of none."""
        self.assert_same(form(value), text)
        self.assertEqual(parse(text), value)
        self.assertIs(type(parse(text)), type(value))
        dice = random.Random(len(text))
        for _ in range(30):
            other = spoiled(dice, text)
            try:
                found = parse(other)
            except ParseError as error:
                self.assertIs(type(error), ParseError)
            else:
                self.assertEqual(form(found), other)

    def refused_texts(self, parse, texts):
        for text in texts:
            self.refused(ParseError, parse, text)
        for value in wrong_values():
            if value != "" or parse not in EMPTY:
                self.refused(ParseError, parse, value)

    def test_schemes(self):
        self.check(SHOP, SHOP_TEXT, format_scheme, parse_scheme)
        for scheme, text in (
                (Scheme(Table("a", 1)), "a 1"), (Scheme(Table("key", 4, key=(0, 2, 3))), "key 4 key 0,2,3 living"), (PLAIN, "t 2\ns 1"),
                (Scheme(Table("refers", 1, key=(0,)), Table("all", 2, refers=(((1,), "refers"), ((0,), "refers")))), "refers 1 key 0 living\nall 2 refers 0 refers refers 1 refers"),
                (Scheme(Table("a", 2, key=(0, 1), scope="all"), Table("b", 1, refers=(((0, 0), "a"),))), "a 2 key 0,1 all\nb 1 refers 0,0 a")):
            self.check(scheme, text, format_scheme, parse_scheme)
        for scheme in [*some_schemes(), *chains()]:
            self.check(scheme, format_scheme(scheme), format_scheme, parse_scheme)

    def test_no_schemes(self):
        self.refused_texts(parse_scheme, [
            "", " ", "\n", "a", "a ", "a 0", "a 5", "a 01", "a +1", "a -1", "A 1", "a 1 ", " a 1", "a 1\n", "\na 1", "a  1", "a 1\n\nb 1", "a 1\na 1", "a 1\r\nb 1", "a 1 key", "a 1 key 0",
            "a 1 key 0 dead", "a 1 key 1 living", "a 1 key  living", "a 2 key 1,0 living", "a 2 key 0,0 living", "a 2 key 0, living", "a 2 key 0,,1 living", "a 2 key x living", "a 1 living",
            "a 1 key 0 living key 0 living", "a 1 refers 0 a", "a 1\nb 1 refers 0 a", "a 1 key 0 living\nb 1 refers 0", "a 1 key 0 living\nb 1 refers 1 a", "a 1 key 0 living\nb 1 refers 0 c",
            "a 1 key 0 living\nb 2 refers 1 a refers 0 a", "a 1 key 0 living\nb 1 refers 0 a refers 0 a", "a 1 key 0 living\nb 1 refers 0 a key 0 living", "a 1 key 0 living\nb 1 refers  a",
            "a 1 key 0 living\nb 1 key 0 living refers 00 a", "b 1 refers 0 a\na 1 key 0 living", "a 1\nb 1\nc 1\nd 1\ne 1", "ninelongs 1", "a 1 extra", "a 1 all", "a 1 key None living",
            "a 1 key 0 all\nb 4 refers 0 a refers 1 a refers 2 a refers 3 a refers 0 a", "a 100000000000000000000", "a None", "a True"])

    def test_bases(self):
        parse = lambda text: parse_base(SHOP, text)
        self.check(DAY, DAY_TEXT, format_base, parse)
        self.check(Base.empty(SHOP), "", format_base, parse)
        base = Base(PLAIN, living={"t": ((-5, GREAT),)}, gone={"t": ((-5, GREAT),) * 99})
        self.check(base, f"t -5,{GREAT} living\nt -5,{GREAT} gone 99", format_base, lambda text: parse_base(PLAIN, text))
        dice = random.Random(131)
        for scheme in some_schemes():
            for _ in range(10):
                base = random_base(dice, scheme)
                self.check(base, format_base(base), format_base, lambda text: parse_base(scheme, text))
        hundred = Base(PLAIN, living={"s": tuple((number,) for number in range(100))})
        self.check(hundred, format_base(hundred), format_base, lambda text: parse_base(PLAIN, text))
        self.refused(ParseError, parse_base, PLAIN, format_base(hundred) + "\ns 100 living")
        self.refused(ParseError, parse_base, PLAIN, format_base(hundred) + "\ns 100 gone 1")

    def test_no_bases(self):
        parse = EMPTY[1]
        self.refused_texts(parse, [
            " ", "\n", "s", "s 1", "s 1 dead", "s 1 gone", "s 1 gone 0", "s 1 gone -1", "s 1 gone 01", "s 1 gone 101", "s 1 gone 100000000000000000000", "s 1 gone x", "s 1 living 1", "s 01 living",
            "s -0 living", "s 1, living", "s 1,1 living", "s x living", "s  1 living", "s 1 living ", " s 1 living", "s 1 living\n", "s 1 living\n\ns 2 living", "s 2 living\ns 1 living",
            "s 1 living\ns 1 living", "s 1 gone 1\ns 1 gone 1", "s 1 gone 1\ns 1 living", "s 1 living\nt 1,1 living", "u 1 living", f"s {TOO_GREAT} living", "s 1 gone 60\ns 2 gone 41", "t 1 living",
            "s +1 living", "s 1_0 living", "s 1 Living", "S 1 living", "s 1 gone  1", "s 1 gone 1 gone 1"])
        self.refused(ParseError, parse_base, SHOP, "order 5,1 living")
        self.refused(ParseError, parse_base, SHOP, "buyer 1,10 living\nbuyer 1,11 living")
        self.refused(ParseError, parse_base, SHOP, "buyer 1,10 living\nbuyer 1,11 gone 1")
        self.assertEqual(parse_base(SHOP, "buyer 1,10 living\norder 5,1 living").size, 2)

    def test_histories(self):
        self.check(HISTORY, f"put buyer 1,10\ntake buyer 1,10\npurge nosuch {-GREAT}\nback a 0,1,-1,{GREAT}", format_history, parse_history)
        self.check((), "", format_history, parse_history)
        dice = random.Random(132)
        for scheme in some_schemes():
            history = random_model(dice, scheme, 20)[1]
            self.check(history, format_history(history), format_history, parse_history)
        long = (("put", "s", (1,)),) * 2000
        self.assertEqual(parse_history(format_history(long)), long)
        self.refused(ParseError, parse_history, format_history(long) + "\nput s 1")
        self.refused(InvalidHistory, format_history, long + long[:1])

    def test_no_histories(self):
        self.refused_texts(parse_history, [
            " ", "\n", "put", "put a", "put a ", "put  1", "put a 1 ", " put a 1", "put a 1\n", "\nput a 1", "put a 1\n\nput a 1", "Put a 1", "along a 1", "put A 1", "put a 01", "put a -0", "put a +1",
            "put a 1,", "put a ,1", "put a 1,,1", "put a 1, 1", "put a 1,2,3,4,5", "put a x", f"put a {TOO_GREAT}", "put ninelongs 1", "put a 1 1", "put a 1;put a 1", "put a 1\tput", "put a 1.0", "put a 1e3"])

    def test_rules(self):
        for rule, text in (
                (Rule((), Place("a", "x")), "() if a(x)"), (Rule(("t", 7), Place("order", "o", 7), +Place("item", "o", "t")), "(t, 7) if order(o, 7), +item(o, t)"),
                (Rule(("x",), Place("a", "x"), without=((Place("b", "x"), +Place("c", -GREAT, "y")), (+Place("a", 0),))), f"(x) if a(x) without b(x), +c({-GREAT}, y) without +a(0)"),
                (Rule(("if", "without"), Place("if", "if", "without"), Place("without", "if"), without=((Place("if", "without"), Place("without", "without")),)),
                 "(if, without) if if(if, without), without(if) without if(without), without(without)")):
            self.check(rule, text, str, parse_rule)
        dice = random.Random(133)
        for scheme in some_schemes():
            for _ in range(20):
                for rule in (random_rule(dice, [(table.name, table.width, True) for table in scheme]), random_check(dice, scheme)):
                    self.check(rule, str(rule), str, parse_rule)

    def test_no_rules(self):
        self.refused_texts(parse_rule, [
            "", " ", "\n", "()", "() if", "() if ", "() if a", "() if a(", "() if a()", "() if a(x", "() if a(x) ", " () if a(x)", "() if a(x)\n", "\n() if a(x)", "()  if a(x)", "() if  a(x)", "() if a (x)",
            "() if a( x)", "() if a(x )", "() if a(x,y)", "() if a(x,  y)", "() if a(x),b(x)", "() if a(x),  b(x)", "() if a(x), ", "() if a(x) b(x)", "() if ++a(x)", "() if -a(x)", "() if + a(x)", "() if A(x)",
            "() if a(X)", "() if a(01)", "() if a(-0)", "() if a(+1)", f"() if a({TOO_GREAT})", "() if a(x1)", "() if a(ninelongs)", "() if ninelongs(x)", "(y) if a(x)", "(x if a(x)", "x) if a(x)", "x if a(x)",
            "(x,) if a(x)", "(x,x) if a(x)", "(x, x, x, x, x) if a(x)", "( ) if a(x)", "() if a(x, x, x, x, x)", "() if " + ", ".join(["a(x)"] * 7), "() if a(x) without b(x)", "(x) if a(x) without ", "(x) if a(x) without",
            "(x) if a(x)  without b(x)", "(x) if a(x) without  b(x)", "(x) if a(x) without b(x),", "(x) without b(x) if a(x)", "(x) if a(x)" + " without b(x)" * 4, "(x) if a(x) without " + ", ".join(["b(x)"] * 6),
            "() if a(x)]", "() if a[x]", "[] if a(x)", "() if a(x), b(y", "() if a(x)) if b(x)", "() if a(x) if b(x)", "v: () if a(x)", "() IF a(x)", "() if a(None)"])
        self.assertEqual(len(parse_rule("(x) if a(x) without " + ", ".join(["b(x)"] * 5)).parts[0]), 5)

    def test_programs(self):
        parse = lambda text: parse_program(SHOP, text)
        self.check(SALES, SALES_TEXT, format_program, parse)
        two = Program(SHOP, of=(Rule((1,), Place("item", 1, 2)), Rule((2,), +Place("item", 1, 3))), scheme=Rule((), Place("of", "x"))) if False else Program.of(
            SHOP, {"of": (Rule((1,), Place("item", 1, 2)), Rule((2,), +Place("item", 1, 3))), "scheme": Rule((), Place("of", "x")), "self": Rule((), Place("of", 1))})
        self.check(two, "of: (1) if item(1, 2)\nof: (2) if +item(1, 3)\nscheme: () if of(x)\nself: () if of(1)", format_program, parse)
        dice = random.Random(134)
        for scheme in some_schemes():
            for _ in range(15):
                program = random_program(dice, scheme)
                if program is not None:
                    self.check(program, format_program(program), format_program, lambda text: parse_program(scheme, text))

    def test_no_programs(self):
        parse = lambda text: parse_program(SHOP, text)
        item = "if item(x, y)"
        self.refused_texts(parse, [
            "", " ", "\n", "v", "v:", "v: ", "v:(x) " + item, f"v : (x) {item}", f"v:  (x) {item}", f" v: (x) {item}", f"v: (x) {item} ", f"v: (x) {item}\n", f"\nv: (x) {item}", f"(x) {item}", f": (x) {item}",
            f"V: (x) {item}", f"item: (x) {item}", f"v: (x) if items(x, y)", "v: (x) if item(x)", "v: (x) if v(x)", f"w: () if v(x)\nv: (x) {item}", f"v: (x) {item}\nw: () if +v(x)", f"v: (x) {item}\nw: () if v(x, y)",
            f"v: (x) {item}\nw: (x) {item}\nv: (x) {item}", f"v: (x) {item}\nv: () {item}", "\n".join([f"v: (x) {item}"] * 4), "\n".join([f"{name}: (x) {item}" for name in "abcde"]), f"v: (x) {item}\n\nw: (x) {item}",
            "v: (x, y) if item(x, y) without order(x, y)", f"v: (x) {item}; w: (x) {item}", f"ninelongs: (x) {item}", f"v: v: (x) {item}"])
        # More than twelve choices, and more than six places.
        many = "\n".join([f"v: (x) {item}"] * 3)
        self.assertEqual(len(parse(f"{many}\nw: () if v(x), v(y)")["w"]), 1)
        self.refused(ParseError, parse, f"{many}\nw: () if v(x), v(y), v(z)")
        wide = "v: (x) if " + ", ".join(["item(x, y)"] * 6)
        self.assertEqual(len(parse(f"{wide}\nw: () if v(x)")["v"][0]), 6)
        self.refused(ParseError, parse, f"{wide}\nw: () if v(x), item(x, x)")

    def test_wrong_arguments(self):
        for value in wrong_values():
            if not isinstance(value, Scheme):
                self.refused(InvalidScheme, format_scheme, value)
                self.refused(InvalidScheme, parse_base, value, "")
                self.refused(InvalidScheme, parse_base, value, value)
                self.refused(InvalidScheme, parse_program, value, SALES_TEXT)
                self.refused(InvalidScheme, parse_program, value, value)
            if not isinstance(value, Base):
                self.refused(InvalidBase, format_base, value)
            if value != ():
                self.refused(InvalidHistory, format_history, value)
                self.refused(InvalidHistory, format_history, (*HISTORY, value))
            if not isinstance(value, Program):
                self.refused(InvalidProgram, format_program, value)
        self.refused(InvalidHistory, format_history, list(HISTORY))

    def test_great_texts(self):
        for text in ("9" * 10000, "-" * 10000, "a " * 5000, "a 1\n" * 2500, "() if " + "a(x), " * 1600, "s 1 gone 100\n" * 700, " without " * 1100, "(" * 10000, "a 1 gone " + "9" * 5000, "put a " + "1" * 5000, "a: " * 3000, "\n" * 10000):
            for parse in (parse_scheme, parse_rule, parse_history, EMPTY[1], lambda one: parse_program(SHOP, one)):
                self.refused(ParseError, parse, text)


EMPTY = (parse_history, lambda text: parse_base(PLAIN, text))


if __name__ == "__main__":
    unittest.main()
