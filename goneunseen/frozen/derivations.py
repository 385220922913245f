"""Derivations: steps which show that a rule tells nothing from gone rows alone."""

from goneunseen.ask.arguments import check_living, check_table_rule
from goneunseen.ask.programs import outlines_of
from goneunseen.ask.rules import outline_of
from goneunseen.errors import InvalidMode, InvalidNumber, InvalidPaper
from goneunseen.frozen.chase import as_living, chased
from goneunseen.frozen.numbered import Numbered
from goneunseen.frozen.search import first_choice, values_of
from goneunseen.scheme.names import is_whole

_MODES = ("answers", "numbers")
_MOST_STEPS = 200


def rows_behind(scheme, rule, steps, *, living=False):
    """The rows behind the steps, or None if two different integers are equated."""
    check_table_rule(scheme, rule)
    if not are_steps(steps):
        raise InvalidPaper("no tuple of at most 200 steps")
    check_living(living)
    _, triples = outline_of(rule)
    rows = rows_after(scheme, as_living(triples) if living else triples, steps)
    if rows is None:
        raise InvalidPaper("a step is not possible")
    if rows.is_empty():
        return None
    return tuple([_told_row(rows, number) for number in range(rows.how_many())])


def derivation(program, name, index, *, mode="answers"):
    """A right derivation for an unfolded rule, or None if there is none."""
    outlines = _checked_outlines(program, name, index)
    check_mode(mode)
    rows, steps = chased(program.scheme, outlines[index][1])
    ending = right_ending(outlines, index, rows, mode)
    return None if ending is None else (steps, ending)


def is_derivation(program, name, index, value, *, mode="answers"):
    """Whether the value is a right derivation for an unfolded rule."""
    outlines = _checked_outlines(program, name, index)
    check_mode(mode)
    return is_right(program.scheme, outlines, index, value, mode)


def check_mode(mode):
    """Raises an error unless the value is a mode."""
    if mode not in _MODES:
        raise InvalidMode("no mode")


def is_right(scheme, outlines, index, value, mode):
    """Whether the value is a right derivation for the rule with this index, one of the unfolded rules of a view."""
    if not isinstance(value, tuple) or len(value) != 2 or not are_steps(value[0]):
        return False
    triples = outlines[index][1]
    rows = rows_after(scheme, triples, value[0])
    if rows is None or not isinstance(value[1], tuple):
        return False
    if rows.is_empty():
        return value[1] == ("empty",)
    if value[1] == ("living",):
        return rows.are_living(len(triples))
    return mode == "answers" and _is_fold_ending(outlines, index, rows, value[1])


def right_ending(outlines, index, rows, mode):
    """A right ending behind all that can be done, or None."""
    head, triples = outlines[index][0], outlines[index][1]
    if rows.is_empty():
        return ("empty",)
    if rows.are_living(len(triples)):
        return ("living",)
    if mode == "answers":
        terms, living = rows.ends_of(head), rows.by_table(True)
        for other, outline in enumerate(outlines):
            numbers = _folded(outline, terms, living)
            if numbers is not None:
                return "fold", other, numbers
    return None


def are_steps(value):
    """Whether the value is a tuple of at most 200 steps, as far as their form goes."""
    if not isinstance(value, tuple) or len(value) > _MOST_STEPS:
        return False
    return all([_is_step(step) for step in value])


def rows_after(scheme, triples, steps):
    """The numbered rows behind the steps, or None if one of them is not possible."""
    rows = Numbered(scheme, triples)
    for step in steps:
        if not rows.can_do(step):
            return None
        rows.do_step(step)
    return rows


def is_row_number(rows, value, is_living):
    """Whether the value is the number of a row, a living one if this is asked for."""
    if not is_whole(value) or not 0 <= value < rows.how_many():
        return False
    return rows.is_living(value) or not is_living


def _checked_outlines(program, name, index):
    """The outlines of the unfolded rules of the view; raises an error unless one of them has the index."""
    outlines = outlines_of(program, name)
    if not is_whole(index) or not 0 <= index < len(outlines):
        raise InvalidNumber(index)
    return outlines


def _is_step(value):
    if not isinstance(value, tuple) or len(value) != 3 or value[0] not in ("same", "refers"):
        return False
    return is_whole(value[1]) and is_whole(value[2])


def _told_row(rows, number):
    return rows.source_of(number), rows.terms_of(number), rows.is_living(number)


def _folded(outline, head, living):
    """Numbers of living rows for which the places of the rule can stand, while its head has these terms; or None."""
    if not all([source in living for source, _, _ in outline[1]]):
        return None
    values = values_of(outline[0], head, {})
    if values is None:
        return None
    found = first_choice([terms for _, terms, _ in outline[1]], [living[source] for source, _, _ in outline[1]], values)
    return None if found is None else tuple([number for _, number in found])


def _is_fold_ending(outlines, index, rows, value):
    if len(value) != 3 or value[0] != "fold" or not isinstance(value[2], tuple):
        return False
    if not is_whole(value[1]) or not 0 <= value[1] < len(outlines):
        return False
    head, triples = outlines[value[1]][0], outlines[value[1]][1]
    if len(value[2]) != len(triples) or not all([is_row_number(rows, number, True) for number in value[2]]):
        return False
    values = values_of(head, rows.ends_of(outlines[index][0]), {})
    for (source, terms, _), number in zip(triples, value[2]):
        if values is None or rows.source_of(number) != source:
            return False
        values = values_of(terms, rows.terms_of(number), values)
    return values is not None
