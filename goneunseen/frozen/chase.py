"""The chase: what freezing a rule does as long as it can be done."""

from goneunseen.frozen.numbered import Numbered


def chased(scheme, triples):
    """The pair of the numbered rows behind all that can be done, and the tuple of the steps that were done.

    It stops as soon as two different integers are equated. The triples tell the table and the terms of each row, and
    whether it is living.
    """
    rows, steps = Numbered(scheme, triples), []
    can_merge = True
    while can_merge and not rows.is_empty():
        # Rows become one first, so that no row is added beside one that does already.
        before = rows.how_many_equated()
        steps.extend(rows.merge_once())
        # Where no terms are equated, no other rows have equal keys than before.
        can_merge = rows.how_many_equated() > before
        if not can_merge:
            done, can_merge = rows.refer_all()
            steps.extend(done)
    return rows, tuple(steps)


def as_living(triples):
    """The triples, all of them living."""
    return [(source, terms, True) for source, terms, _ in triples]
