"""Schemes: tables in an order, and the rules that follow from them."""

from goneunseen.errors import InvalidOperation, InvalidRow, InvalidScheme, InvalidTable, UnknownName
from goneunseen.scheme.names import is_name, is_row_of, is_whole
from goneunseen.scheme.tables import Table, plan_of

_MOST_TABLES = 4
_MOST_REFERENCES = 4


class Scheme:
    """One to four tables, each of which refers to earlier ones only."""

    def __init__(self, *tables):
        _check_tables(tables)
        self._tables = tables
        self._by_name = {table.name: table for table in tables}
        self._plans = {table.name: plan_of(table) for table in tables}
        self._rules = tuple(sorted([rule for table in tables for rule in _rules_of(table)]))

    @classmethod
    def of(cls, tables):
        """The scheme of a tuple of tables."""
        if not isinstance(tables, tuple):
            raise InvalidScheme("the tables are no tuple")
        return cls(*tables)

    @property
    def names(self):
        """The names of the tables, in their order."""
        return tuple([table.name for table in self._tables])

    @property
    def listed(self):
        """The tables, in their order."""
        return self._tables

    @property
    def rules(self):
        """The rules, ascending."""
        return self._rules

    def without(self, rule):
        """The scheme without one of its rules."""
        if not is_scheme_rule(rule) or rule not in self._rules:
            raise InvalidOperation("the scheme has no such rule")
        if rule[0] == "key" and self._needs_key(rule[1]):
            raise InvalidOperation("another rule needs the key")
        return self._with_table(_table_without(self._by_name[rule[1]], rule))

    def with_rule(self, rule):
        """The scheme with one rule more."""
        if not is_scheme_rule(rule) or rule in self._rules or rule[1] not in self._by_name:
            raise InvalidOperation("the scheme cannot have this rule, or has it")
        table = self._by_name[rule[1]]
        if rule[0] == "key" and table.key is not None:
            raise InvalidOperation("the table has a key")
        try:
            return self._with_table(_table_with(table, rule))
        except (InvalidTable, InvalidScheme):
            raise InvalidOperation("what results is no scheme") from None

    def within(self, other):
        """Whether each base of the other scheme has the rows of a base of this one."""
        if not isinstance(other, Scheme):
            raise InvalidScheme("no scheme")
        return have_same_tables(self, other) and all([rule in other._rules for rule in self._rules])

    def __len__(self):
        return len(self._tables)

    def __iter__(self):
        return iter(self._tables)

    def __getitem__(self, at):
        if at not in self:
            raise UnknownName(at)
        return self._by_name[at]

    def __contains__(self, value):
        # Only strings are looked up: other values need not be hashable.
        return isinstance(value, str) and value in self._by_name

    def __eq__(self, other):
        return isinstance(other, Scheme) and self._tables == other._tables

    def _needs_key(self, name):
        targets = [target for table in self._tables for columns, target in table.refers]
        return self._by_name[name].scope == "all" or name in targets

    def _with_table(self, changed):
        return Scheme.of(tuple([changed if table.name == changed.name else table for table in self._tables]))


def plans_of(scheme):
    """The dict from the names of a scheme's tables to their plans, as it is kept: only to be looked at."""
    return scheme._plans


def have_same_tables(first, second):
    """Whether two schemes have tables with the same names and widths in the same order."""
    return [(table.name, table.width) for table in first] == [(table.name, table.width) for table in second]


def is_scheme_rule(value):
    """Whether the value has the form of a rule; then Python's == tells equal rules rightly."""
    if not isinstance(value, tuple) or not 2 <= len(value) <= 4 or not is_name(value[1]):
        return False
    if len(value) == 2:
        return value[0] == "all"
    if not isinstance(value[2], tuple) or not all([is_whole(column) for column in value[2]]):
        return False
    if len(value) == 3:
        return value[0] == "key"
    return value[0] == "refers" and is_name(value[3])


def loose_rules(scheme):
    """The rules without which the scheme can be, ascending: no other rule needs them."""
    return [rule for rule in scheme._rules if rule[0] != "key" or not scheme._needs_key(rule[1])]


def check_row(scheme, table, row):
    """Raises an error unless the scheme has a table of this name, and it can have the row."""
    if not is_row_of(row, scheme[table].width):
        raise InvalidRow("the table has no such row")


def _check_tables(tables):
    if not 1 <= len(tables) <= _MOST_TABLES:
        raise InvalidScheme("a scheme has one to four tables")
    earlier = {}
    for table in tables:
        if not isinstance(table, Table) or table.name in earlier:
            raise InvalidScheme("a scheme has tables with different names")
        for columns, target in table.refers:
            if not _is_target(earlier.get(target), columns):
                raise InvalidScheme("a reference needs an earlier table with a key of as many columns")
        earlier[table.name] = table
    if sum([len(table.refers) for table in tables]) > _MOST_REFERENCES:
        raise InvalidScheme("a scheme has at most four references")


def _is_target(table, columns):
    return table is not None and table.key is not None and len(table.key) == len(columns)


def _rules_of(table):
    """The rules of a scheme that come from this table."""
    rules = [("refers", table.name, columns, target) for columns, target in table.refers]
    if table.key is not None:
        rules.append(("key", table.name, table.key))
    if table.scope == "all":
        rules.append(("all", table.name))
    return rules


def _table_without(table, rule):
    columns, scope, pairs = table.key, table.scope, table.refers
    if rule[0] == "all":
        return Table(table.name, table.width, key=columns, refers=pairs)
    if rule[0] == "key":
        return Table(table.name, table.width, refers=pairs)
    kept = tuple([pair for pair in pairs if pair != (rule[2], rule[3])])
    return Table(table.name, table.width, key=columns, scope=scope, refers=kept)


def _table_with(table, rule):
    columns, scope, pairs = table.key, table.scope, table.refers
    if rule[0] == "all":
        return Table(table.name, table.width, key=columns, scope="all", refers=pairs)
    if rule[0] == "key":
        wanted = rule[2]
        return Table(table.name, table.width, key=wanted, refers=pairs)
    more = pairs + ((rule[2], rule[3]),)
    return Table(table.name, table.width, key=columns, scope=scope, refers=more)
