"""Checks: rules with parts without which their places are to match, and what shows whether they are faithful."""

from goneunseen.ask.arguments import check_base, check_living
from goneunseen.ask.places import triples_of
from goneunseen.ask.rules import outline_of, tables_fit
from goneunseen.ask.told import check_product, counts_of_outline, pairs_for
from goneunseen.errors import InvalidRule
from goneunseen.frozen.chase import as_living, chased
from goneunseen.frozen.derivations import are_steps, is_row_number, rows_after
from goneunseen.frozen.folds import is_answer_of
from goneunseen.frozen.frozen import frozen_anew
from goneunseen.frozen.search import first_choice, values_of
from goneunseen.scheme.names import is_whole
from goneunseen.store.histories import end_of, history_to

_MOST_ROWS = 60


def check_answers(scheme, rule, base, *, living=False):
    """The ascending tuple of the answers of a check."""
    _check_parted(scheme, rule)
    check_base(scheme, base)
    check_living(living)
    _check_products(rule, base)
    return _answers_left(rule, base, living)


def misleads_check(scheme, rule, base):
    """Whether a check has other answers from all rows than from the living rows."""
    _check_parted(scheme, rule)
    check_base(scheme, base)
    _check_products(rule, base)
    return _answers_left(rule, base, False) != _answers_left(rule, base, True)


def check_paper(scheme, rule):
    """A check paper: right derivations for all cases, or a history that misleads."""
    _check_parted(scheme, rule)
    head, _ = outline_of(rule)
    derivations = []
    for case, triples in enumerate(_cases(rule)):
        rows, steps = chased(scheme, triples)
        ending = _case_ending(rule, case, rows)
        if ending is None:
            base, _, answer = frozen_anew(scheme, (head, triples), rows, rule.integers)
            return "misled", history_to(base), answer
        derivations.append((steps, ending))
    return "faithful", tuple(derivations)


def is_check_paper(scheme, rule, value):
    """Whether the value is a check paper."""
    _check_parted(scheme, rule)
    if not isinstance(value, tuple):
        return False
    if len(value) == 2 and value[0] == "faithful":
        return _are_right(scheme, rule, value[1])
    if len(value) == 3 and value[0] == "misled":
        return _are_misleading(scheme, rule, value[1], value[2])
    return False


def is_faithful_check(scheme, rule):
    """Whether a check is faithful."""
    _check_parted(scheme, rule)
    for case, triples in enumerate(_cases(rule)):
        rows, _ = chased(scheme, triples)
        if _case_ending(rule, case, rows) is None:
            return False
    return True


def _check_parted(scheme, rule):
    """Raises an error unless the rule has parts, and fits the scheme."""
    if not tables_fit(scheme, rule) or not rule.parts:
        raise InvalidRule("no rule with parts over the tables of the scheme")


def _check_products(rule, base):
    check_product(base, triples_of(rule.places))
    for part in rule.parts:
        check_product(base, triples_of([*rule.places, *part]))


def _answers_left(rule, base, living):
    """The ascending tuple of the answers that no part bars."""
    head, triples = outline_of(rule)
    left = list(counts_of_outline(head, triples, base, living))
    for part in rule.parts:
        # Without any answer the combinations of a part can be too many.
        if left:
            left = _answers_beside(head, left, triples_of(part), base, living)
    return tuple(sorted(left))


def _answers_beside(head, answers, triples, base, living):
    """Those of the answers with whose integers a part does not match: the head has all variables that are shared."""
    terms = [term for _, inside, _ in triples for term in inside]
    spots = [at for at, term in enumerate(head) if isinstance(term, str) and term in terms and head.index(term) == at]
    barred = counts_of_outline(tuple([head[at] for at in spots]), triples, base, living)
    return [answer for answer in answers if tuple([answer[at] for at in spots]) not in barred]


def _cases(rule):
    """For each case of a check the triples of its first rows."""
    triples = triples_of(rule.places)
    return [triples, *[[*as_living(triples), *triples_of(part)] for part in rule.parts]]


def _case_ending(rule, case, rows):
    """A right ending for a case behind all that can be done, or None."""
    if rows.is_empty():
        return ("empty",)
    living = rows.by_table(True)
    found = _rows_there(rule, rows, living) if case == 0 else None
    if found is not None:
        return "there", found
    everything = rows.by_table(False)
    values = {name: rows.ends_of((name,))[0] for name in rule.variables}
    for index, part in enumerate(rule.parts):
        triples = triples_of(part)
        choices = [
            (living if case > 0 or filtered else everything).get(source, []) for source, _, filtered in triples]
        found = first_choice([terms for _, terms, _ in triples], choices, values)
        if found is not None:
            return "barred", index, tuple([number for _, number in found])
    return None


def _rows_there(rule, rows, living):
    """Numbers of living rows with the terms of the places of a check, or None."""
    found = []
    for source, terms, _ in triples_of(rule.places):
        ends = rows.ends_of(terms)
        numbers = [number for other, number in living.get(source, []) if other == ends]
        if not numbers:
            return None
        found.append(numbers[0])
    return tuple(found)


def _are_right(scheme, rule, derivations):
    """Whether the value is a tuple of right derivations for all cases."""
    cases = _cases(rule)
    if not isinstance(derivations, tuple) or len(derivations) != len(cases):
        return False
    for case, value in enumerate(derivations):
        if not _is_right_in_case(scheme, rule, case, cases[case], value):
            return False
    return True


def _is_right_in_case(scheme, rule, case, triples, value):
    if not isinstance(value, tuple) or len(value) != 2 or not are_steps(value[0]):
        return False
    rows = rows_after(scheme, triples, value[0])
    ending = value[1]
    if rows is None or not isinstance(ending, tuple):
        return False
    if rows.is_empty():
        return ending == ("empty",)
    if len(ending) == 2 and ending[0] == "there":
        return case == 0 and _are_there(rule, rows, ending[1])
    if len(ending) == 3 and ending[0] == "barred":
        return _is_barred(rule, case, rows, ending[1], ending[2])
    return False


def _are_there(rule, rows, numbers):
    """Whether the value is a tuple of numbers of living rows, one for each place of the check, with its terms."""
    triples = triples_of(rule.places)
    if not _are_row_numbers(rows, numbers, [(source, True) for source, _, _ in triples]):
        return False
    ends = [rows.ends_of(terms) for _, terms, _ in triples]
    return ends == [rows.terms_of(number) for number in numbers]


def _is_barred(rule, case, rows, index, numbers):
    """Whether the part with this index matches on the rows with these numbers."""
    if not is_whole(index) or not 0 <= index < len(rule.parts):
        return False
    triples = triples_of(rule.parts[index])
    if not _are_row_numbers(rows, numbers, [(source, case > 0 or filtered) for source, _, filtered in triples]):
        return False
    # The variables of the check's places stand for themselves.
    values = {name: rows.ends_of((name,))[0] for name in rule.variables}
    for (_, terms, _), number in zip(triples, numbers):
        values = values_of(terms, rows.terms_of(number), values)
        if values is None:
            return False
    return True


def _are_row_numbers(rows, numbers, wanted):
    """Whether the value is a tuple of numbers of rows of these tables, each with whether it has to be living."""
    if not isinstance(numbers, tuple) or len(numbers) != len(wanted):
        return False
    for number, (table, is_living) in zip(numbers, wanted):
        if not is_row_number(rows, number, is_living) or rows.table_of(number).name != table:
            return False
    return True


def _are_misleading(scheme, rule, history, answer):
    """Whether the answer is told behind the history either from all rows or from the living rows, but not from both."""
    if not is_answer_of(rule.head, answer):
        return False
    base = end_of(scheme, history)
    if base is None or base.size > _MOST_ROWS:
        return False
    return _tells(rule, base, answer, False) != _tells(rule, base, answer, True)


def _tells(rule, base, answer, living):
    """Whether an answer is told; there is no limit to the combinations of rows."""
    values = values_of(rule.head, answer, {})
    if values is None or not _has_choice(rule.places, base, values, living):
        return False
    return not any([_has_choice(part, base, values, living) for part in rule.parts])


def _has_choice(places, base, values, living):
    """Whether places match with these integers for those of their variables that have some."""
    triples = triples_of(places)
    choices = [pairs_for(base, triple, living) for triple in triples]
    return first_choice([terms for _, terms, _ in triples], choices, values) is not None
