"""Whether programs are faithful, and the papers that show it."""

from goneunseen.ask.arguments import check_base
from goneunseen.ask.programs import Program, outlines_of
from goneunseen.ask.told import told_both_ways
from goneunseen.errors import InvalidProgram
from goneunseen.faith.papers import Derived, Misleading
from goneunseen.frozen.chase import chased
from goneunseen.frozen.derivations import check_mode, right_ending
from goneunseen.frozen.frozen import frozen_anew
from goneunseen.store.histories import history_to


def faith_paper(program, name, *, mode="answers"):
    """A paper that shows whether the program is faithful at the view."""
    outlines = outlines_of(program, name)
    check_mode(mode)
    return paper_over(program, program.scheme, outlines, mode)


def is_faithful(program, name, *, mode="answers"):
    """Whether the program is faithful at the view."""
    outlines = outlines_of(program, name)
    check_mode(mode)
    return are_faithful(program.scheme, outlines, mode)


def misled_views(program, *, mode="answers"):
    """The names of the views at which the program is not faithful, in their order."""
    if not isinstance(program, Program):
        raise InvalidProgram("no program")
    check_mode(mode)
    return tuple([name for name in program.names if not are_faithful(program.scheme, outlines_of(program, name), mode)])


def misleads(program, name, base, *, mode="answers"):
    """Whether the base misleads the program at the view."""
    outlines = outlines_of(program, name)
    check_base(program.scheme, base)
    check_mode(mode)
    everything, living = told_both_ways(outlines, base)
    return list(everything) != list(living) if mode == "answers" else everything != living


def paper_over(program, scheme, outlines, mode):
    """A paper that shows, under this scheme, whether a view of the program with these unfolded rules is faithful."""
    derivations = []
    for index, outline in enumerate(outlines):
        rows, steps = chased(scheme, outline[1])
        ending = right_ending(outlines, index, rows, mode)
        if ending is None:
            return paper_behind(program, scheme, outline, rows, mode)
        derivations.append((steps, ending))
    return Derived(mode, tuple(derivations))


def paper_behind(program, scheme, outline, rows, mode):
    """A paper that shows that the program is misled by what an unfolded rule, with these rows, is frozen to."""
    # Only an integer of the program could make a rule match in the frozen base where it should not.
    integers = [number for name in program.names for rule in program[name] for number in rule.integers]
    base, _, answer = frozen_anew(scheme, outline, rows, integers)
    return Misleading(mode, history_to(base), answer)


def are_faithful(scheme, outlines, mode):
    """Whether all unfolded rules of a view have right derivations."""
    for index, outline in enumerate(outlines):
        rows, _ = chased(scheme, outline[1])
        if right_ending(outlines, index, rows, mode) is None:
            return False
    return True
