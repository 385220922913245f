"""What unfolded rules tell in a base: their answers, and how often they are told.

Rules are told by their outlines here: the head, the triples of the places, and perhaps more behind these.
"""

from goneunseen.base.bases import kept_rows
from goneunseen.errors import TooMany

_MOST_COMBINATIONS = 50000


def check_combinations(outlines, base):
    """Raises an error if a rule has too many combinations of different stored rows."""
    for outline in outlines:
        check_product(base, outline[1])


def check_product(base, triples):
    """Raises an error if places have too many combinations of different stored rows."""
    many = 1
    for source, _, _ in triples:
        many = many * _how_many_different(base, source)
    if many > _MOST_COMBINATIONS:
        raise TooMany(_MOST_COMBINATIONS)


def _how_many_different(base, table):
    living, gone = kept_rows(base, table)
    if not gone:
        return len(living)
    return len(gone) + len([row for row in living if row not in gone])


def told_answers(outlines, base, living):
    """The ascending tuple of the answers that the rules tell."""
    return tuple(told_numbers(outlines, base, living))


def told_numbers(outlines, base, living):
    """A dict from the answers that the rules tell, ascending, to their numbers of matches."""
    check_combinations(outlines, base)
    counts = {}
    for outline in outlines:
        found = counts_of_outline(outline[0], outline[1], base, living)
        for answer in found:
            counts[answer] = counts.get(answer, 0) + found[answer]
    return {answer: counts[answer] for answer in sorted(counts)}


def told_both_ways(outlines, base):
    """Two dicts from answers to their numbers of matches, from all rows and from the living rows."""
    return told_numbers(outlines, base, False), told_numbers(outlines, base, True)


def counts_of_outline(head, triples, base, living):
    """A dict from the answers of a rule, in any order, to their numbers.

    Place by place it keeps only the integers of those variables that stand in the head or in a later place, so that
    matches which differ in other variables are counted together.
    """
    weights = [_weights(base, triple, living) for triple in triples]
    if not all([bool(rows) for rows in weights]):
        return {}
    names, counts = [], {(): 1}
    for at, (_, terms, _) in enumerate(triples):
        later = [*head, *[term for _, others, _ in triples[at + 1:] for term in others]]
        names, counts = _behind_place(names, counts, terms, weights[at], later)
    return _headed(head, names, counts)


def columns_of(terms):
    """A dict from the variables among the terms of a place to the first columns in which they stand."""
    columns = {}
    for column, term in enumerate(terms):
        if isinstance(term, str) and term not in columns:
            columns[term] = column
    return columns


def fitting_rows(terms, rows):
    """The list of those rows for which a place with these terms can stand, whatever its variables are elsewhere."""
    columns = columns_of(terms)
    if len(columns) == len(terms):
        return list(rows)
    return [row for row in rows if row == tuple([row[columns[term]] if term in columns else term for term in terms])]


def pairs_for(base, triple, living):
    """The ascending pairs of a row for which the place can stand, and whether this is the living one or copies."""
    source, terms, filtered = triple
    alive, gone = kept_rows(base, source)
    pairs = [(row, True) for row in fitting_rows(terms, alive)]
    if living or filtered or not gone:
        return pairs
    return sorted([*pairs, *[(row, False) for row in fitting_rows(terms, gone)]])


def _weights(base, triple, living):
    """A dict from the rows for which a place can stand to their numbers: the living one, and the copies."""
    source, terms, filtered = triple
    alive, gone = kept_rows(base, source)
    weights = {row: 1 for row in fitting_rows(terms, alive)}
    if not living and not filtered:
        for row in fitting_rows(terms, gone):
            weights[row] = weights.get(row, 0) + gone[row]
    return weights


def _behind_place(names, counts, terms, weights, later):
    """The names and the counts behind one place more: keys of the counts are the integers of the names."""
    columns = columns_of(terms)
    known = [columns[name] for name in names if name in columns]
    spots = [at for at, name in enumerate(names) if name in columns]
    more = [name for name in columns if name not in names and name in later]
    kept = [at for at, name in enumerate(names) if name in later]
    added = [columns[name] for name in more]
    buckets = {}
    for row in weights:
        key = tuple([row[column] for column in known])
        if key not in buckets:
            buckets[key] = []
        buckets[key].append((tuple([row[column] for column in added]), weights[row]))
    found = {}
    for values in counts:
        rest = tuple([values[at] for at in kept])
        for ending, weight in buckets.get(tuple([values[at] for at in spots]), ()):
            key = rest + ending
            found[key] = found.get(key, 0) + counts[values] * weight
    return [*[names[at] for at in kept], *more], found


def _headed(head, names, counts):
    """The counts by heads instead of by the integers of the names: the names are the variables of the head."""
    if names == list(head):
        return counts
    spots = [names.index(term) if isinstance(term, str) else None for term in head]
    found = {}
    for values in counts:
        answer = tuple([term if at is None else values[at] for term, at in zip(head, spots)])
        found[answer] = counts[values]
    return found
