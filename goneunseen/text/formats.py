"""Texts of schemes, bases, histories, rules and programs: exactly one for each."""

from goneunseen.ask.places import Place
from goneunseen.ask.programs import Program
from goneunseen.ask.rules import Rule
from goneunseen.base.bases import Base
from goneunseen.errors import (
    BrokenRule,
    InvalidBase,
    InvalidHistory,
    InvalidPlace,
    InvalidProgram,
    InvalidRule,
    InvalidScheme,
    InvalidTable,
    ParseError,
    TooMany,
)
from goneunseen.scheme.schemes import Scheme
from goneunseen.scheme.tables import Table
from goneunseen.store.histories import has_history_form
from goneunseen.text.words import integer_in, integers_in, integers_text, row_in


def format_scheme(scheme):
    """The text of a scheme."""
    _check_scheme(scheme)
    return "\n".join([_table_text(table) for table in scheme])


def format_base(base):
    """The text of a base."""
    if not isinstance(base, Base):
        raise InvalidBase("no base")
    rows = [(name, row, words) for name in base.scheme.names for row, words in row_lines(base, name)]
    return "\n".join([" ".join([name, integers_text(row), *words]) for name, row, words in rows])


def row_lines(base, table):
    """The rows of a table with the words behind them, ascending, the living line of a row first."""
    living = [(row, 0, ("living",)) for row in base.living(table)]
    gone = [(row, 1, ("gone", str(many))) for row, many in base.gone(table).items()]
    return [(row, words) for row, _, words in sorted([*living, *gone])]


def format_history(history):
    """The text of a history."""
    if not has_history_form(history):
        raise InvalidHistory("no tuple of at most 2000 commands")
    return "\n".join([f"{word} {table} {integers_text(row)}" for word, table, row in history])


def format_program(program):
    """The text of a program."""
    if not isinstance(program, Program):
        raise InvalidProgram("no program")
    return "\n".join([f"{name}: {str(rule)}" for name in program.names for rule in program[name]])


def parse_scheme(text):
    """The scheme with this text."""
    tables = [_table_in(line) for line in _lines_of(text)]
    try:
        scheme = Scheme(*tables)
    except InvalidScheme:
        raise ParseError("no scheme has this text") from None
    _check_same(text, format_scheme(scheme))
    return scheme


def parse_rule(text):
    """The rule with this text."""
    if not isinstance(text, str):
        raise ParseError("no text")
    rule = _rule_in(text)
    _check_same(text, str(rule))
    return rule


def parse_history(text):
    """The history with this text."""
    commands = tuple([_command_in(line) for line in _lines_of(text)])
    if not has_history_form(commands):
        raise ParseError("no history has this text")
    return commands


def parse_base(scheme, text):
    """The base of the scheme with this text."""
    _check_scheme(scheme)
    lines = _lines_of(text)
    if len(lines) > Base.MAX_ROWS:
        raise ParseError("no base has so many rows")
    living, gone = {}, {}
    for line in lines:
        table, row, many = _stored_in(line)
        if many == 0:
            living[table] = (*living.get(table, ()), row)
        else:
            gone[table] = gone.get(table, ()) + (row,) * many
    try:
        base = Base(scheme, living=living, gone=gone)
    except (InvalidBase, BrokenRule, TooMany):
        raise ParseError("no base has this text") from None
    _check_same(text, format_base(base))
    return base


def parse_program(scheme, text):
    """The program over the scheme with this text."""
    _check_scheme(scheme)
    views = {}
    for line in _lines_of(text):
        name, _, rest = line.partition(": ")
        views[name] = (*views.get(name, ()), _rule_in(rest))
    try:
        program = Program.of(scheme, views)
    except (InvalidProgram, TooMany):
        raise ParseError("no program has this text") from None
    _check_same(text, format_program(program))
    return program


def _check_scheme(scheme):
    if not isinstance(scheme, Scheme):
        raise InvalidScheme("no scheme")


def _check_same(text, expected):
    """Raises an error unless what was read has exactly this text."""
    if text != expected:
        raise ParseError("the text is written otherwise")


def _lines_of(text):
    """The lines of a text; the empty text has none."""
    if not isinstance(text, str):
        raise ParseError("no text")
    return text.split("\n") if text else []


def _table_text(table):
    words = [table.name, str(table.width)]
    if table.key is not None:
        words.extend(["key", integers_text(table.key), table.scope])
    for columns, target in table.refers:
        words.extend(["refers", integers_text(columns), target])
    return " ".join(words)


def _table_in(line):
    words = line.split(" ")
    width = integer_in(words[1]) if len(words) > 1 else None
    rest, columns, scope = words[2:], None, "living"
    if len(rest) >= 3 and rest[0] == "key":
        columns, scope = integers_in(rest[1]), rest[2]
        rest = rest[3:]
    references = []
    while len(rest) >= 3 and rest[0] == "refers":
        references.append((integers_in(rest[1]), rest[2]))
        rest = rest[3:]
    pairs = tuple(references)
    if rest:
        raise ParseError("no table has this text")
    try:
        return Table(words[0], width, key=columns, scope=scope, refers=pairs)
    except InvalidTable:
        raise ParseError("no table has this text") from None


def _command_in(line):
    words = line.split(" ")
    row = row_in(words[2]) if len(words) == 3 else None
    if row is None:
        raise ParseError("no command has this text")
    return words[0], words[1], row


def _stored_in(line):
    """The table and the row of a line, and the number of copies; it is 0 for a living row."""
    words = line.split(" ")
    row = row_in(words[1]) if len(words) > 2 else None
    if row is not None and words[2:] == ["living"]:
        return words[0], row, 0
    many = integer_in(words[3]) if len(words) == 4 and words[2] == "gone" else None
    if row is None or many is None or not 1 <= many <= Base.MAX_ROWS:
        raise ParseError("no stored row has this text")
    return words[0], row, many


def _rule_in(text):
    head, _, rest = text.partition(") if ")
    sections = [_places_in(section) for section in rest.split(" without ")]
    places, parts = sections[0], tuple(sections[1:])
    try:
        return Rule.of(_terms_from(head[1:]), places, without=parts)
    except InvalidRule:
        raise ParseError("no rule has this text") from None


def _places_in(text):
    # Behind each place but the last one its bracket is what separates it from the next one.
    return tuple([_place_in(part) for part in text[:-1].split("), ")])


def _place_in(text):
    is_filtered = text.startswith("+")
    source, _, terms = text.partition("(")
    try:
        return Place.of(source[1:] if is_filtered else source, _terms_from(terms), filtered=is_filtered)
    except InvalidPlace:
        raise ParseError("no place has this text") from None


def _terms_from(text):
    """The terms between commas; what is no integer is taken for a variable."""
    if text == "":
        return ()
    return tuple([_term_in(word) for word in text.split(", ")])


def _term_in(word):
    number = integer_in(word)
    return word if number is None else number
