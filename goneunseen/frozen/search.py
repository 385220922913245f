"""A search for rows that some patterns of terms can stand for, all at once."""


def values_of(terms, row, values):
    """The values with which the terms stand for the row, or None; some can be known, an integer stands for itself."""
    found = {term: values[term] for term in values}
    for term, value in zip(terms, row):
        known = term if isinstance(term, int) else found.setdefault(term, value)
        if known != value:
            return None
    return found


def first_choice(patterns, choices, values):
    """For each pattern a pair of its choices for whose row it stands, or None if there is no such list.

    The pairs are of a row and something that is told about it; the same variable has the same value in all patterns.
    """
    everything = tuple(range(len(patterns)))
    choices = _narrowed(patterns, choices, everything, values)
    if choices is None:
        return None
    found = _solved(patterns, choices, everything, values, {})
    return None if found is None else [found[at] for at in everything]


def _narrowed(patterns, choices, places, values):
    """A dict from these places to their choices that fit the values, or None if one has none."""
    narrowed = {}
    for at in places:
        fitting = _fitting(patterns[at], choices[at], values)
        if not fitting:
            return None
        narrowed[at] = fitting
    return narrowed


def _fitting(terms, pairs, values):
    """Those of the pairs for whose rows the terms can stand with these values."""
    for column, term in enumerate(terms):
        wanted = term if isinstance(term, int) else values.get(term)
        if wanted is not None:
            pairs = [pair for pair in pairs if pair[0][column] == wanted]
        elif term in terms[:column]:
            first = terms.index(term)
            pairs = [pair for pair in pairs if pair[0][first] == pair[0][column]]
    return pairs


def _solved(patterns, choices, places, values, failed):
    """A dict from these places to pairs, or None; each of them has choices, which fit the values."""
    if len(places) == 1:
        return {places[0]: choices[places[0]][0]}
    found = {}
    for part in _parts(patterns, places, values):
        more = _solved_part(patterns, choices, part, values, failed)
        if more is None:
            return None
        found.update(more)
    return found


def _parts(patterns, places, values):
    """The places in parts that have no variables in common but those with values: each can be solved apart."""
    parts = []
    for at in places:
        names = [term for term in patterns[at] if isinstance(term, str) and term not in values]
        near = [part for part in parts if any([name in part[1] for name in names])]
        apart = [part for part in parts if part not in near]
        inside = [place for part in near for place in part[0]]
        known = [name for part in near for name in part[1]]
        parts = [*apart, ([*inside, at], [*known, *names])]
    return [part[0] for part in parts]


def _solved_part(patterns, choices, part, values, failed):
    if len(part) == 1:
        return {part[0]: choices[part[0]][0]}
    # What fits hangs on these values alone, so that it need not be tried again in vain.
    mark = (tuple(part), tuple([values.get(term) for at in part for term in patterns[at]]))
    if mark in failed:
        return None
    first = min(part, key=lambda at: len(choices[at]))
    rest = [at for at in part if at != first]
    for pair in choices[first]:
        more = values_of(patterns[first], pair[0], values)
        narrowed = _narrowed(patterns, choices, rest, more)
        if narrowed is not None:
            found = _solved(patterns, narrowed, rest, more, failed)
            if found is not None:
                return {**found, first: pair}
    failed[mark] = True
    return None
