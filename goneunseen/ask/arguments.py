"""Checks of arguments that several modules take."""

from goneunseen.ask.rules import tables_fit
from goneunseen.base.bases import Base
from goneunseen.errors import InvalidBase, InvalidOperation, InvalidRule


def check_table_rule(scheme, rule):
    """Raises an error unless the rule has no parts, and fits the scheme."""
    if not tables_fit(scheme, rule) or rule.parts:
        raise InvalidRule("no rule without parts over the tables of the scheme")


def check_base(scheme, base):
    """Raises an error unless it is a base of an equal scheme."""
    if not isinstance(base, Base) or not base.scheme == scheme:
        raise InvalidBase("no base of this scheme")


def check_living(value):
    """Raises an error unless the value is a boolean."""
    if not isinstance(value, bool):
        raise InvalidOperation("living is a boolean")
