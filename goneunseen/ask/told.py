"""What unfolded rules tell in a base: their answers, and how often they are told.

Rules are told by their outlines here: the head, the triples of the places, and perhaps more behind these.
"""

from goneunseen.ask.joins import Join, columns_of
from goneunseen.base.bases import different_rows, kept_rows
from goneunseen.errors import TooMany

_MOST_COMBINATIONS = 50000


def check_combinations(outlines, base):
    """Raises an error if a rule has too many combinations of different stored rows."""
    for outline in outlines:
        check_product(base, outline[1])


def check_product(base, triples):
    """Raises an error if places have too many combinations of different stored rows."""
    check_how_many(how_many_combinations(base, triples))


def check_how_many(many):
    """Raises an error if these are too many combinations."""
    if many > _MOST_COMBINATIONS:
        raise TooMany(_MOST_COMBINATIONS)


def how_many_combinations(base, triples):
    """How many combinations of different stored rows places have."""
    many = 1
    for source, _, _ in triples:
        many = many * len(different_rows(base, source, False))
    return many


def told_answers(outlines, base, living):
    """The ascending tuple of the answers that the rules tell."""
    return tuple(told_numbers(outlines, base, living))


def told_numbers(outlines, base, living):
    """A dict from the answers that the rules tell, ascending, to their numbers of matches."""
    check_combinations(outlines, base)
    counts = {}
    for outline in outlines:
        found = counts_of_outline(outline[0], outline[1], base, living)
        for answer in found:
            counts[answer] = counts.get(answer, 0) + found[answer]
    return {answer: counts[answer] for answer in sorted(counts)}


def told_both_ways(outlines, base):
    """Two dicts from answers to their numbers of matches, from all rows and from the living rows."""
    return told_numbers(outlines, base, False), told_numbers(outlines, base, True)


def counts_of_outline(head, triples, base, living):
    """A dict from the answers of a rule, in any order, to their numbers.

    Matches which differ in variables that are not needed any more are counted together.
    """
    weights = [_weights(base, triple, living) for triple in triples]
    # Where a place has no rows at all, there is no end to what the others could have together.
    if not all([bool(rows) for rows in weights]):
        return {}
    return Join(triples, head).counts_in(weights)


def fitting_rows(terms, rows):
    """The list of those rows for which a place with these terms can stand, whatever its variables are elsewhere."""
    columns = columns_of(terms)
    if len(columns) == len(terms):
        return list(rows)
    return [row for row in rows if row == tuple([row[columns[term]] if term in columns else term for term in terms])]


def pairs_for(base, triple, living):
    """The ascending pairs of a row for which the place can stand, and whether this is the living one or copies."""
    source, terms, filtered = triple
    alive, gone = kept_rows(base, source)
    pairs = [(row, True) for row in fitting_rows(terms, alive)]
    if living or filtered or not gone:
        return pairs
    return sorted([*pairs, *[(row, False) for row in fitting_rows(terms, gone)]])


def _weights(base, triple, living):
    """A dict from the rows for which a place can stand to their numbers: the living one, and the copies."""
    source, terms, filtered = triple
    alive, gone = kept_rows(base, source)
    weights = {row: 1 for row in fitting_rows(terms, alive)}
    if not living and not filtered:
        for row in fitting_rows(terms, gone):
            weights[row] = weights.get(row, 0) + gone[row]
    return weights
