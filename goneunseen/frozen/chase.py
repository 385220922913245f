"""The chase: what freezing a rule does as long as it can be done."""

from goneunseen.frozen.numbered import Numbered, key_columns
from goneunseen.scheme.tables import picked


def chased(scheme, rule, living):
    """The pair of the numbered rows behind all that can be done, and the tuple of the steps that were done.

    It stops as soon as two different integers are equated.
    """
    rows, steps = Numbered(scheme, rule, living), []
    is_done = False
    while not is_done and not rows.is_empty():
        # Rows become one first, so that no row is added beside one that does already.
        done = _merging(rows)
        if not done:
            done = _referring(rows)
        steps.extend(done)
        is_done = not done
    return rows, tuple(steps)


def _merging(rows):
    """Makes rows one, in one pass over all of them; the steps that were done."""
    firsts, done = {}, []
    for number in range(rows.how_many()):
        for mark in _marks(rows, number):
            other = rows.first_of(firsts.setdefault(mark, number))
            if other != rows.first_of(number):
                step = ("same", other, number)
                rows.do(step)
                done.append(step)
    return done


def _marks(rows, number):
    """Rows with a mark in common can become one."""
    table = rows.table_of(number)
    key = picked(rows.terms_of(number), key_columns(table))
    marks = []
    if rows.is_living(number):
        marks.append(("living", table.name, key))
    if table.scope == "all":
        marks.append(("all", table.name, key))
    return marks


def _referring(rows):
    """Adds the rows to which living rows refer, also through others; the steps that were done."""
    there = {mark: True for number in range(rows.how_many()) for mark in _marks(rows, number)}
    done = []
    number = 0
    while number < rows.how_many():
        if rows.is_living(number) and rows.first_of(number) == number:
            done.extend(_referring_from(rows, number, there))
        number += 1
    return done


def _referring_from(rows, number, there):
    done = []
    for index, (_, target) in enumerate(rows.table_of(number).refers):
        mark = ("living", target, rows.told_by(number, index))
        if mark not in there:
            there[mark] = True
            step = ("refers", number, index)
            rows.do(step)
            done.append(step)
    return done
