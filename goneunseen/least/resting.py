"""The rules of its scheme on which a faithful program rests."""

from goneunseen.ask.programs import outlines_of
from goneunseen.errors import Misled
from goneunseen.faith.faithful import are_faithful, paper_over
from goneunseen.faith.papers import Misleading, shows_misled
from goneunseen.frozen.derivations import check_mode
from goneunseen.scheme.schemes import Scheme, is_scheme_rule, loose_rules


def rests_on(program, name, *, mode="answers"):
    """A dict from the rules on which the program rests to papers that show that it is misled without them."""
    outlines = _faithful_outlines(program, name, mode)
    found = {}
    for rule in loose_rules(program.scheme):
        paper = paper_over(program, program.scheme.without(rule), outlines, mode)
        if paper.verdict == "misled":
            found[rule] = paper
    return found


def is_resting(program, name, value, *, mode="answers"):
    """Whether the value is such a dict."""
    outlines = _faithful_outlines(program, name, mode)
    if not isinstance(value, dict):
        return False
    rules = loose_rules(program.scheme)
    # Python counts True as equal to 1, so their form is looked at first.
    if not all([is_scheme_rule(rule) and rule in rules for rule in value]):
        return False
    for rule in rules:
        scheme = program.scheme.without(rule)
        if rule in value:
            if not _is_misleading(value[rule], scheme, outlines, mode):
                return False
        elif not are_faithful(scheme, outlines, mode):
            return False
    return True


def loosest(program, name, *, mode="answers"):
    """A loosest scheme under which the program is faithful at the view."""
    outlines = _faithful_outlines(program, name, mode)
    scheme = program.scheme
    # What is needed once is needed when the scheme has fewer rules, too. Keys come last, as other rules need them.
    rules = scheme.rules
    for rule in [*[rule for rule in rules if rule[0] != "key"], *[rule for rule in rules if rule[0] == "key"]]:
        if rule in loose_rules(scheme) and are_faithful(scheme.without(rule), outlines, mode):
            scheme = scheme.without(rule)
    return scheme


def is_loosest(program, name, value, *, mode="answers"):
    """Whether the value is a loosest scheme."""
    outlines = _faithful_outlines(program, name, mode)
    if not isinstance(value, Scheme) or not value.within(program.scheme):
        return False
    if not are_faithful(value, outlines, mode):
        return False
    return not any([are_faithful(value.without(rule), outlines, mode) for rule in loose_rules(value)])


def _faithful_outlines(program, name, mode):
    """The unfolded rules of the view; raises an error if the program is misled there."""
    outlines = outlines_of(program, name)
    check_mode(mode)
    paper = paper_over(program, program.scheme, outlines, mode)
    if paper.verdict == "misled":
        raise Misled(name, paper)
    return outlines


def _is_misleading(value, scheme, outlines, mode):
    """Whether the value is a paper which shows that the program is misled under the scheme."""
    return isinstance(value, Misleading) and value.mode == mode and shows_misled(value, scheme, outlines)
