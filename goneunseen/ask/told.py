"""What unfolded rules tell in a base: their answers, and how often they are told."""

from goneunseen.errors import TooMany
from goneunseen.scheme.names import is_name, is_whole

_MOST_COMBINATIONS = 50000


def check_combinations(rules, base):
    """Raises an error if a rule has too many combinations of different stored rows."""
    different = {name: len(set([*base.living(name), *base.gone(name)])) for name in base.scheme.names}
    for rule in rules:
        many = 1
        for place in rule:
            many = many * different[place.source]
        if many > _MOST_COMBINATIONS:
            raise TooMany(_MOST_COMBINATIONS)


def told_answers(rules, base, living):
    """The ascending tuple of the answers that the rules tell."""
    return tuple(told_numbers(rules, base, living))


def told_numbers(rules, base, living):
    """A dict from the answers that the rules tell, ascending, to their numbers of matches."""
    check_combinations(rules, base)
    counts = {}
    for rule in rules:
        found = _counts_of_rule(rule, base, living)
        for answer in found:
            counts[answer] = counts.get(answer, 0) + found[answer]
    return {answer: counts[answer] for answer in sorted(counts)}


def columns_of(place):
    """A dict from the variables of a place to the first columns in which they stand."""
    columns = {}
    for column, term in enumerate(place.terms):
        if is_name(term):
            columns.setdefault(term, column)
    return columns


def pairs_for(place, base, living):
    """The ascending pairs of a row for which the place can stand, and whether this is the living one or copies."""
    pairs = [(row, True) for row in base.living(place.source)]
    if not living and not place.filtered:
        pairs.extend([(row, False) for row in base.gone(place.source)])
    return sorted([pair for pair in pairs if _can_stand_for(place, pair[0])])


def _can_stand_for(place, row):
    """Whether the place can stand for the row, whatever integers its variables have elsewhere."""
    columns = columns_of(place)
    return row == tuple([row[columns[term]] if term in columns else term for term in place.terms])


def _counts_of_rule(rule, base, living):
    """A dict from the answers of a rule to their numbers.

    Place by place it keeps only the integers of those variables that stand in the head or in a later place, so that
    matches which differ in other variables are counted together.
    """
    names, counts = (), {(): 1}
    for at, place in enumerate(rule):
        later = [*rule.head, *[term for other in rule.places[at + 1:] for term in other.terms]]
        names, counts = _behind_place(names, counts, place, _weights(place, base, living), later)
    return _headed(rule.head, names, counts)


def _weights(place, base, living):
    """A dict from the rows for which a place can stand to their numbers: the living one, and the copies."""
    weights = {row: 1 for row in base.living(place.source)}
    if not living and not place.filtered:
        gone = base.gone(place.source)
        for row in gone:
            weights[row] = weights.get(row, 0) + gone[row]
    return {row: weights[row] for row in weights if _can_stand_for(place, row)}


def _behind_place(names, counts, place, weights, later):
    """The names and the counts behind one place more: keys of the counts are the integers of the names."""
    columns = columns_of(place)
    known = [name for name in columns if name in names]
    buckets = {}
    for row in weights:
        buckets.setdefault(tuple([row[columns[name]] for name in known]), []).append(row)
    more = [name for name in columns if name not in names]
    behind = [*names, *more]
    kept = [at for at, name in enumerate(behind) if name in later]
    spots = [names.index(name) for name in known]
    found = {}
    for values in counts:
        for row in buckets.get(tuple([values[at] for at in spots]), ()):
            every = values + tuple([row[columns[name]] for name in more])
            key = tuple([every[at] for at in kept])
            found[key] = found.get(key, 0) + counts[values] * weights[row]
    return tuple([behind[at] for at in kept]), found


def _headed(head, names, counts):
    """The counts by heads instead of by the integers of the names: the names are the variables of the head."""
    found = {}
    for values in counts:
        answer = tuple([term if is_whole(term) else values[names.index(term)] for term in head])
        found[answer] = counts[values]
    return found
