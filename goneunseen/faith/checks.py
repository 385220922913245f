"""Checks: rules with parts without which their places are to match, and what shows whether they are faithful."""

from goneunseen.ask.arguments import check_base, check_living
from goneunseen.ask.rules import Rule, outline_of, part_triples_of, tables_fit, worked_out
from goneunseen.base.bases import different_rows
from goneunseen.errors import InvalidRule
from goneunseen.faith.cases import Cases
from goneunseen.faith.telling import Telling
from goneunseen.frozen.folds import is_answer_of
from goneunseen.frozen.frozen import frozen_anew
from goneunseen.frozen.search import first_choice, values_of
from goneunseen.store.histories import end_of, history_to

_MOST_ROWS = 60


class Check:
    """A rule with parts under a scheme; what is asked of it again and again is made when it is asked for first."""

    def __init__(self, scheme, rule):
        self._scheme = scheme
        self._head, self._triples = outline_of(rule)
        self._parts = part_triples_of(rule)
        self._telling = None
        self._cases = None

    def is_under(self, scheme):
        """Whether it is about an equal scheme."""
        return self._scheme == scheme

    def telling(self):
        """The check as its answers are asked for."""
        if self._telling is None:
            self._telling = Telling(self._head, self._triples, self._parts)
        return self._telling

    def cases(self):
        """The cases of the check."""
        if self._cases is None:
            self._cases = Cases(self._scheme, self._triples, self._parts)
        return self._cases


def check_answers(scheme, rule, base, *, living=False):
    """The ascending tuple of the answers of a check."""
    check = _check_of(scheme, rule)
    check_base(scheme, base)
    check_living(living)
    return check.telling().answers_in(base, living)


def misleads_check(scheme, rule, base):
    """Whether a check has other answers from all rows than from the living rows."""
    telling = _check_of(scheme, rule).telling()
    check_base(scheme, base)
    return telling.answers_in(base, False) != telling.answers_in(base, True)


def check_paper(scheme, rule):
    """A check paper: right derivations for all cases, or a history that misleads."""
    found = _check_of(scheme, rule).cases().found()
    triples, rows, _, ending = found[-1]
    if ending is None:
        head, _ = outline_of(rule)
        base, _, answer = frozen_anew(scheme, (head, triples), rows, rule.integers)
        return "misled", history_to(base), answer
    return "faithful", tuple([(steps, right) for _, _, steps, right in found])


def is_check_paper(scheme, rule, value):
    """Whether the value is a check paper."""
    check = _check_of(scheme, rule)
    if not isinstance(value, tuple):
        return False
    if len(value) == 2 and value[0] == "faithful":
        return check.cases().are_right(value[1])
    if len(value) == 3 and value[0] == "misled":
        return _are_misleading(scheme, rule, value[1], value[2])
    return False


def is_faithful_check(scheme, rule):
    """Whether a check is faithful."""
    return _check_of(scheme, rule).cases().found()[-1][3] is not None


def _check_of(scheme, rule):
    """The check of a rule with parts; raises an error unless it has parts, and fits the scheme."""
    known = worked_out(rule) if isinstance(rule, Rule) else {}
    if "check" in known and known["check"].is_under(scheme):
        return known["check"]
    if not tables_fit(scheme, rule) or not part_triples_of(rule):
        raise InvalidRule("no rule with parts over the tables of the scheme")
    known["check"] = Check(scheme, rule)
    return known["check"]


def _are_misleading(scheme, rule, history, answer):
    """Whether the answer is told behind the history either from all rows or from the living rows, but not from both."""
    head, triples = outline_of(rule)
    if not is_answer_of(head, answer):
        return False
    base = end_of(scheme, history)
    if base is None or base.size > _MOST_ROWS:
        return False
    values = values_of(head, answer, {})
    if values is None:
        return False
    parts = part_triples_of(rule)
    return _tells(triples, parts, base, values, False) != _tells(triples, parts, base, values, True)


def _tells(triples, parts, base, values, living):
    """Whether a check tells the answer with these values; there is no limit to the combinations of rows."""
    # All variables of the places have values.
    for source, terms, filtered in triples:
        row = tuple([values.get(term, term) for term in terms])
        if row not in different_rows(base, source, living or filtered):
            return False
    return not any([_has_choice(part, base, values, living) for part in parts])


def _has_choice(triples, base, values, living):
    """Whether places match with these integers for those of their variables that have some."""
    choices = [
        [(row, row) for row in different_rows(base, source, living or filtered)] for source, _, filtered in triples]
    return first_choice([terms for _, terms, _ in triples], choices, values) is not None
