"""A shell: a desk that is told what to do by lines, and answers by lines."""

from goneunseen.ask.tallies import Tally
from goneunseen.desk.desk import Desk
from goneunseen.errors import InvalidOperation
from goneunseen.text.columns import base_columns
from goneunseen.text.formats import format_history, parse_program, parse_scheme
from goneunseen.text.lines import in_one_line, in_several_lines, parts_of_line
from goneunseen.text.words import integers_text

_READING = ("tell", "surplus", "names", "parted", "show")


class Shell:
    """It has a desk, and does lines."""

    def __init__(self, scheme):
        self._desk = Desk(scheme)
        self._lines = ()

    @property
    def log(self):
        """The lines that entered, undid or did again a step."""
        return self._lines

    def do(self, line):
        """Does a line, and returns the result."""
        parts = parts_of_line(line)
        result = _result(self._desk, parts)
        # Nothing is undone or done again by 0 steps.
        if parts[0] not in _READING and parts[1] != 0:
            self._lines = (*self._lines, line)
        return in_one_line(result)

    def results(self, lines):
        """Yields the results of some lines, each of which is done when it is asked for."""
        if not isinstance(lines, tuple):
            raise InvalidOperation("the lines are no tuple")
        for line in lines:
            yield self.do(line)

    def copied_desk(self):
        """A twin of the desk."""
        return self._desk.twin()

    def __eq__(self, other):
        return isinstance(other, Shell) and self._desk == other._desk


def _result(desk, parts):
    word = parts[0]
    if word in ("put", "take", "back", "purge"):
        return format_history(desk.do(parts))
    if word == "along":
        return format_history(desk.take(parts[1], parts[2], along=True))
    if word == "undo":
        desk.undo(parts[1])
        return str(len(desk.log))
    if word == "redo":
        desk.redo(parts[1])
        return str(len(desk.log))
    if word in ("define", "drop", "policy", "adopt"):
        return _settled(desk, parts)
    if word == "show":
        return base_columns(desk.base, parts[1])
    if word == "tell":
        return _told_text(desk.tell(parts[1]))
    if word == "surplus":
        return _told_text(desk.surplus(parts[1]))
    return " ".join(desk.names if word == "names" else desk.parted()) or "-"


def _settled(desk, parts):
    """What is said when a question, the policy or the scheme is another one."""
    word = parts[0]
    if word == "define":
        program = parse_program(desk.scheme, in_several_lines(parts[4]))
        mode = parts[3]
        return str(desk.define(parts[1], program, parts[2], mode=mode))
    if word == "drop":
        desk.drop(parts[1])
    elif word == "policy":
        desk.set_policy(parts[1])
    else:
        desk.adopt(parse_scheme(in_several_lines(parts[1])))
    return "done"


def _told_text(told):
    """The text of what a question tells: a tally, or a tuple of answers."""
    if isinstance(told, Tally):
        return str(told)
    return " ".join([integers_text(answer) or "-" for answer in told]) or "none"
