"""The chase: what freezing a rule does as long as it can be done."""

from goneunseen.frozen.numbered import Numbered, key_columns
from goneunseen.scheme.tables import picked


def chased(scheme, triples):
    """The pair of the numbered rows behind all that can be done, and the tuple of the steps that were done.

    It stops as soon as two different integers are equated. The triples tell the table and the terms of each row, and
    whether it is living.
    """
    rows, steps = Numbered(scheme, triples), []
    is_done = False
    while not is_done and not rows.is_empty():
        # Rows become one first, so that no row is added beside one that does already.
        done = _merging(rows)
        if not done:
            done = _referring(rows)
        steps.extend(done)
        is_done = not done
    return rows, tuple(steps)


def as_living(triples):
    """The triples, all of them living."""
    return [(source, terms, True) for source, terms, _ in triples]


def _merging(rows):
    """Makes rows one, in one pass over all of them; the steps that were done."""
    firsts, done = {}, []
    for number in range(rows.how_many()):
        for mark in _marks(rows, number):
            other = firsts.setdefault(mark, number)
            if other != number and rows.first_of(other) != rows.first_of(number):
                step = ("same", rows.first_of(other), number)
                rows.do_step(step)
                done.append(step)
    return done


def _marks(rows, number):
    """Rows with a mark in common can become one."""
    table = rows.table_of(number)
    is_living, is_all = rows.is_living(number), table.scope == "all"
    if not is_living and not is_all:
        return []
    name, key = table.name, picked(rows.terms_of(number), key_columns(table))
    marks = [("living", name, key)] if is_living else []
    if is_all:
        marks.append(("all", name, key))
    return marks


def _referring(rows):
    """Adds the rows to which living rows refer, also through others; the steps that were done."""
    numbers = [number for number in range(rows.how_many()) if rows.table_of(number).refers and rows.is_living(number)]
    if not numbers:
        return []
    there = {mark: True for number in range(rows.how_many()) for mark in _marks(rows, number)}
    done = []
    number = 0
    while number < rows.how_many():
        if rows.is_living(number) and rows.first_of(number) == number:
            done.extend(_referring_from(rows, number, there))
        number += 1
    return done


def _referring_from(rows, number, there):
    done = []
    for index, (_, target) in enumerate(rows.table_of(number).refers):
        mark = ("living", target, rows.told_by(number, index))
        if mark not in there:
            there[mark] = True
            step = ("refers", number, index)
            rows.do_step(step)
            done.append(step)
    return done
