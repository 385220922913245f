"""Joins: what the variables of some places are together where the places match."""

from goneunseen.scheme.tables import picked


class Join:
    """Places over tables, which are matched one after another, and the terms of which the values are asked for."""

    def __init__(self, triples, head):
        self._steps, names = [], []
        for place, (_, terms, _) in enumerate(triples):
            # Behind a place those variables are needed that are asked for or stand in a later place.
            needed = head
            for _, others, _ in triples[place + 1:]:
                needed = needed + others
            step, names = _step_from(names, terms, needed)
            self._steps.append(step)
        self._head = None
        if names != list(head):
            self._head = [(term, names.index(term) if isinstance(term, str) else None) for term in head]

    def values_in(self, rows):
        """The different tuples of values, if the places have these rows: some for each place, all of them different."""
        fitting = [some if step[0] is None else _within(step[0], some) for step, some in zip(self._steps, rows)]
        # Where a place has no rows at all, there is no end to what the others could have together.
        if not all([len(some) > 0 for some in fitting]):
            return []
        found = _parts_of(fitting[0], self._steps[0][4])
        for (_, shared, known, kept, added), some in zip(self._steps[1:], fitting[1:]):
            if not shared:
                found = [values + ending for values in _parts_of(found, kept) for ending in _parts_of(some, added)]
            elif added == []:
                found = _parts_of(_joining(found, shared, some, known), kept)
            else:
                found = _lengthened_by(found, shared, kept, _endings_by(some, known, added))
        return found if self._head is None else [self._headed(values) for values in found]

    def counts_in(self, weights):
        """A dict from the tuples of values to their numbers, if the places have rows with weights: a dict for each."""
        counts = {(): 1}
        for (bounds, shared, known, kept, added), some in zip(self._steps, weights):
            fitting = some if bounds is None else _within(bounds, some)
            endings = {}
            for row in fitting:
                endings.setdefault(picked(row, known), []).append((_part_of(row, added), some[row]))
            counts = _counts_behind(counts, shared, kept, endings)
        return counts if self._head is None else {self._headed(values): counts[values] for values in counts}

    def _headed(self, values):
        return tuple([term if at is None else values[at] for term, at in self._head])


def columns_of(terms):
    """A dict from the variables among the terms of a place to the first columns in which they stand."""
    columns = {}
    for column, term in enumerate(terms):
        if isinstance(term, str) and term not in columns:
            columns[term] = column
    return columns


def _step_from(names, terms, needed):
    """How to go on at a place with the values of these names, and the names of the values behind it.

    The step tells the bounds of its rows: pairs of a column and an integer, and of two equal columns; where the values
    stand that it has, too, and the columns in which it has them; where those stand that are still needed; and the
    columns of those that it adds. None stands for no bounds, for all values, and for all columns.
    """
    columns, fixed, equal, shared, known, more, added = {}, [], [], [], [], [], []
    for column, term in enumerate(terms):
        if isinstance(term, int):
            fixed.append((column, term))
        elif term in columns:
            equal.append((columns[term], column))
        else:
            columns[term] = column
            if term in names:
                shared.append(names.index(term))
                known.append(column)
            elif term in needed:
                more.append(term)
                added.append(column)
    bounds = (fixed, equal) if len(columns) < len(terms) else None
    rest = None if len(added) == len(terms) else added
    kept = [at for at, name in enumerate(names) if name in needed] if names else []
    if len(kept) == len(names):
        return (bounds, shared, known, None, rest), [*names, *more]
    return (bounds, shared, known, kept, rest), [*[names[at] for at in kept], *more]


def _within(bounds, rows):
    """Those of the rows that keep the bounds."""
    fixed, equal = bounds
    for column, number in fixed:
        rows = [row for row in rows if row[column] == number]
    for first, second in equal:
        rows = [row for row in rows if row[first] == row[second]]
    return rows


def _part_of(row, columns):
    return row if columns is None else picked(row, columns)


def _parts_of(rows, columns):
    """The different tuples of what the rows have in these columns."""
    if columns is None:
        return rows
    if len(columns) == 1:
        column = columns[0]
        return list({(row[column],): True for row in rows})
    return list({tuple([row[column] for column in columns]): True for row in rows})


def _joining(found, shared, rows, known):
    """Those of the values that a row has in the known columns."""
    if len(shared) == 1:
        at, column = shared[0], known[0]
        alike = {row[column]: True for row in rows}
        return [values for values in found if values[at] in alike]
    keys = {picked(row, known): True for row in rows}
    return [values for values in found if picked(values, shared) in keys]


def _endings_by(rows, known, added):
    """A dict from what rows have in the known columns to a dict of what they add."""
    endings = {}
    for row in rows:
        alike = endings.setdefault(picked(row, known), {})
        alike[picked(row, added)] = True
    return endings


def _lengthened_by(found, shared, kept, endings):
    """The different values with the endings that go with them."""
    pairs = [(values, ending) for values in found for ending in endings.get(picked(values, shared), ())]
    if kept is None:
        return [values + ending for values, ending in pairs]
    return list({picked(values, kept) + ending: True for values, ending in pairs})


def _counts_behind(counts, shared, kept, endings):
    """The numbers of the values behind a place, if these are those before it."""
    found = {}
    for values in counts:
        rest = _part_of(values, kept)
        for ending, weight in endings.get(picked(values, shared), ()):
            key = rest + ending
            found[key] = found.get(key, 0) + counts[values] * weight
    return found
