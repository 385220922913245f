"""Papers: what shows that a program is faithful at a view, or misled there."""

from goneunseen.ask.programs import Program, outlines_of
from goneunseen.ask.told import pairs_for
from goneunseen.errors import InvalidPaper
from goneunseen.frozen.derivations import check_mode, is_right
from goneunseen.frozen.folds import is_answer_of, match_among
from goneunseen.store.histories import end_of

_MOST_ROWS = 60


class Paper:
    """What all papers have; a paper never changes."""

    MODES = ("answers", "numbers")

    def __init__(self, mode):
        check_mode(mode)
        self._mode = mode

    @property
    def mode(self):
        """The mode."""
        return self._mode

    @property
    def verdict(self):
        """What the paper shows: nothing."""
        return None

    def shows(self, program, name):
        """Whether these are a program and the name of one of its views."""
        return _is_view(program, name)

    def __eq__(self, other):
        # The verdict tells the classes apart.
        return isinstance(other, Paper) and self.verdict == other.verdict and self._mode == other._mode


class Derived(Paper):
    """Derivations for all unfolded rules of a view."""

    def __init__(self, mode, derivations):
        super().__init__(mode)
        if not isinstance(derivations, tuple):
            raise InvalidPaper("the derivations are no tuple")
        self._derivations = _copied(derivations)

    @property
    def derivations(self):
        """The derivations."""
        return _copied(self._derivations)

    @property
    def verdict(self):
        """What the paper shows."""
        return "faithful"

    def shows(self, program, name):
        """Whether the derivations are right ones for all unfolded rules of the view, in their order."""
        return _is_view(program, name) and shows_faithful(self, program.scheme, outlines_of(program, name))

    def __eq__(self, other):
        return isinstance(other, Derived) and self._mode == other._mode and self._derivations == other._derivations


class Misleading(Paper):
    """A history behind which an answer is told too often."""

    def __init__(self, mode, history, answer):
        super().__init__(mode)
        if not isinstance(history, tuple):
            raise InvalidPaper("the history is no tuple")
        if not isinstance(answer, tuple):
            raise InvalidPaper("the answer is no tuple")
        self._history = _copied(history)
        self._answer = _copied(answer)

    @property
    def history(self):
        """The history."""
        return _copied(self._history)

    @property
    def answer(self):
        """The answer that is told too often."""
        return _copied(self._answer)

    @property
    def verdict(self):
        """What the paper shows."""
        return "misled"

    def shows(self, program, name):
        """Whether the history leads to a base with at most 60 rows in which the answer is told too often."""
        return _is_view(program, name) and shows_misled(self, program.scheme, outlines_of(program, name))

    def __eq__(self, other):
        return (
            isinstance(other, Misleading)
            and self._mode == other._mode
            and self._history == other._history
            and self._answer == other._answer
        )


def shows_faithful(paper, scheme, outlines):
    """Whether a `Derived` has right derivations for all unfolded rules of a view, which are told by their outlines."""
    derivations = paper._derivations
    if len(derivations) != len(outlines):
        return False
    for index, value in enumerate(derivations):
        if not is_right(scheme, outlines, index, value, paper._mode):
            return False
    return True


def shows_misled(paper, scheme, outlines):
    """Whether a `Misleading` tells a history behind which the unfolded rules of a view tell its answer too often."""
    fitting = [outline for outline in outlines if is_answer_of(outline[0], paper._answer)]
    base = end_of(scheme, paper._history) if fitting else None
    if base is None or base.size > _MOST_ROWS:
        return False
    if paper._mode == "numbers":
        return _has_match_from_gone(fitting, base, paper._answer)
    return _has_match(fitting, base, paper._answer, False) and not _has_match(fitting, base, paper._answer, True)


def _is_view(program, name):
    return isinstance(program, Program) and name in program


def _copied(value):
    """The value with copies of the lists and dicts in it, which could be changed from outside."""
    if isinstance(value, tuple):
        return value if _is_plain(value) else tuple([_copied(part) for part in value])
    if isinstance(value, list):
        return [_copied(part) for part in value]
    if isinstance(value, dict):
        return {key: _copied(value[key]) for key in value}
    return value


def _is_plain(value):
    """Whether there is nothing in a tuple but integers, strings and such tuples."""
    return all([isinstance(part, (int, str)) or (isinstance(part, tuple) and _is_plain(part)) for part in value])


def _has_match(outlines, base, answer, living):
    """Whether one of the rules has a match with this head."""
    for head, triples, _ in outlines:
        pairs = [pairs_for(base, triple, living) for triple in triples]
        if match_among(head, triples, answer, pairs) is not None:
            return True
    return False


def _has_match_from_gone(outlines, base, answer):
    """Whether one of the rules has a match with this head and with a copy of a gone row."""
    for head, triples, _ in outlines:
        pairs = [pairs_for(base, triple, False) for triple in triples]
        for at in range(len(triples)):
            gone = [pair for pair in pairs[at] if not pair[1]]
            if gone and match_among(head, triples, answer, [*pairs[:at], gone, *pairs[at + 1:]]) is not None:
                return True
    return False
