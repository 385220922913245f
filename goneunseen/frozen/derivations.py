"""Derivations: steps which show that a rule tells nothing from gone rows alone."""

from goneunseen.ask.arguments import check_living, check_table_rule
from goneunseen.ask.programs import unfolded
from goneunseen.errors import InvalidMode, InvalidNumber, InvalidPaper
from goneunseen.frozen.chase import chased
from goneunseen.frozen.numbered import Numbered
from goneunseen.frozen.search import first_choice, values_of
from goneunseen.scheme.names import is_whole

_MODES = ("answers", "numbers")
_MOST_STEPS = 200


def rows_behind(scheme, rule, steps, *, living=False):
    """The rows behind the steps, or None if two different integers are equated."""
    check_table_rule(scheme, rule)
    if not _are_steps(steps):
        raise InvalidPaper("no tuple of at most 200 steps")
    check_living(living)
    rows = _after(scheme, rule, steps, living)
    if rows is None:
        raise InvalidPaper("a step is not possible")
    if rows.is_empty():
        return None
    return tuple([_told_row(rows, number) for number in range(rows.how_many())])


def derivation(program, name, index, *, mode="answers"):
    """A right derivation for an unfolded rule, or None if there is none."""
    rules = _checked_rules(program, name, index)
    check_mode(mode)
    rows, steps = chased(program.scheme, rules[index], False)
    ending = _ending(rules, index, rows, mode)
    return None if ending is None else (steps, ending)


def is_derivation(program, name, index, value, *, mode="answers"):
    """Whether the value is a right derivation for an unfolded rule."""
    rules = _checked_rules(program, name, index)
    check_mode(mode)
    return is_right(program.scheme, rules, index, value, mode)


def check_mode(mode):
    """Raises an error unless the value is a mode."""
    if mode not in _MODES:
        raise InvalidMode("no mode")


def is_right(scheme, rules, index, value, mode):
    """Whether the value is a right derivation for the rule with this index, one of the unfolded rules of a view."""
    if not isinstance(value, tuple) or len(value) != 2 or not _are_steps(value[0]):
        return False
    rows = _after(scheme, rules[index], value[0], False)
    if rows is None or not isinstance(value[1], tuple):
        return False
    if rows.is_empty():
        return value[1] == ("empty",)
    if value[1] == ("living",):
        return _are_living(rules[index], rows)
    return mode == "answers" and _is_fold_ending(rules, index, rows, value[1])


def _checked_rules(program, name, index):
    """The unfolded rules of the view; raises an error unless one of them has the index."""
    rules = unfolded(program, name)
    if not is_whole(index) or not 0 <= index < len(rules):
        raise InvalidNumber(index)
    return rules


def _are_steps(value):
    if not isinstance(value, tuple) or len(value) > _MOST_STEPS:
        return False
    return all([_is_step(step) for step in value])


def _is_step(value):
    if not isinstance(value, tuple) or len(value) != 3 or value[0] not in ("same", "refers"):
        return False
    return is_whole(value[1]) and is_whole(value[2])


def _after(scheme, rule, steps, living):
    """The numbered rows behind the steps, or None if one of them is not possible."""
    rows = Numbered(scheme, rule, living)
    for step in steps:
        if not rows.can_do(step):
            return None
        rows.do(step)
    return rows


def _told_row(rows, number):
    return rows.table_of(number).name, rows.terms_of(number), rows.is_living(number)


def _are_living(rule, rows):
    """Whether the rows of all places are living."""
    return all([rows.is_living(number) for number in range(len(rule))])


def _ending(rules, index, rows, mode):
    """A right ending behind all that can be done, or None."""
    if rows.is_empty():
        return ("empty",)
    if _are_living(rules[index], rows):
        return ("living",)
    if mode == "answers":
        for other, rule in enumerate(rules):
            numbers = _folded(rule, rows, rows.ends_of(rules[index].head))
            if numbers is not None:
                return "fold", other, numbers
    return None


def _folded(rule, rows, head):
    """Numbers of living rows for which the places of the rule can stand, while its head has these terms; or None."""
    values = values_of(rule.head, head, {})
    if values is None:
        return None
    living = [number for number in range(rows.how_many()) if rows.is_living(number)]
    choices = [
        [(rows.terms_of(number), number) for number in living if rows.table_of(number).name == place.source]
        for place in rule]
    found = first_choice([place.terms for place in rule], choices, values)
    return None if found is None else tuple([number for terms, number in found])


def _is_fold_ending(rules, index, rows, value):
    if len(value) != 3 or value[0] != "fold" or not isinstance(value[2], tuple):
        return False
    if not is_whole(value[1]) or not 0 <= value[1] < len(rules):
        return False
    rule = rules[value[1]]
    if len(value[2]) != len(rule) or not all([_is_living_number(rows, number) for number in value[2]]):
        return False
    values = values_of(rule.head, rows.ends_of(rules[index].head), {})
    for place, number in zip(rule, value[2]):
        if values is None or rows.table_of(number).name != place.source:
            return False
        values = values_of(place.terms, rows.terms_of(number), values)
    return values is not None


def _is_living_number(rows, value):
    return is_whole(value) and 0 <= value < rows.how_many() and rows.is_living(value)
