"""How a desk guards its questions, triples of a program, a view and a mode."""

from goneunseen.ask.spots import Spots
from goneunseen.errors import InvalidOperation, Misled
from goneunseen.faith.faithful import faith_paper, is_faithful
from goneunseen.least.filters import fewest

_POLICIES = ("strict", "mend", "free")


def check_policy(value):
    """Raises an error unless the value is a policy."""
    if value not in _POLICIES:
        raise InvalidOperation("no policy")


def guarded(policy, name, question):
    """The question as the policy takes it, and its new filters; raises an error if it is refused."""
    program, view, mode = question
    if policy == "strict":
        paper = faith_paper(program, view, mode=mode)
        if paper.verdict == "misled":
            raise Misled(name, paper)
    if policy != "mend" or is_faithful(program, view, mode=mode):
        return question, Spots()
    added = fewest(program, view, mode=mode)
    return (program + added, view, mode), added


def all_guarded(policy, questions):
    """The dict of the questions as the policy takes them, and a dict of the new filters of those that get some."""
    kept, filters = {}, {}
    for name in sorted(questions):
        kept[name], added = guarded(policy, name, questions[name])
        if added:
            filters[name] = added
    return kept, filters
