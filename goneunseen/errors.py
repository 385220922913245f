"""The errors of the package.

Their messages are fixed texts: what an error is made with can be anything, also what has no text.
"""


class GoneError(ValueError):
    """What the errors over invalid and refused values have in common."""


class InvalidTable(GoneError):
    """No such table can be."""


class InvalidScheme(GoneError):
    """No scheme, or none that can be."""


class InvalidRow(GoneError):
    """No row, or none of this width."""


class InvalidBase(GoneError):
    """No base, or no rows of one."""


class InvalidCommand(GoneError):
    """No command."""


class InvalidHistory(GoneError):
    """No tuple of commands, or too many of them."""


class InvalidPlace(GoneError):
    """No place."""


class InvalidRule(GoneError):
    """No rule."""


class InvalidSpot(GoneError):
    """No spot."""


class InvalidProgram(GoneError):
    """No program."""


class InvalidTally(GoneError):
    """No tally."""


class InvalidMode(GoneError):
    """No mode."""


class InvalidPaper(GoneError):
    """No paper, or one that shows nothing."""


class InvalidOperation(GoneError):
    """What is asked for cannot be done."""


class ParseError(GoneError):
    """A text that is the text of no value."""


class Refused(GoneError):
    """A command that the store does not accept."""


class KeyTaken(Refused):
    """Another row stands in the way."""

    def __init__(self, row):
        super().__init__("a row has the key already")
        self.row = row


class NotLiving(Refused):
    """The row is not living."""

    def __init__(self, row):
        super().__init__("the row is not living")
        self.row = row


class NotGone(Refused):
    """The row has no copy, or too few."""

    def __init__(self, row):
        super().__init__("the row has too few copies")
        self.row = row


class Missing(Refused):
    """No living row of the table has the key to which a row would refer."""

    def __init__(self, table, wanted):
        super().__init__("no living row has the key that is referred to")
        self.table = table
        self.wanted = wanted


class Referred(Refused):
    """A living row of the table refers to the row."""

    def __init__(self, table, row):
        super().__init__("a living row refers to the row")
        self.table = table
        self.row = row


class BrokenRule(Refused):
    """The rows break a rule of the scheme."""

    def __init__(self, rule):
        super().__init__("the rows break a rule of the scheme")
        self.rule = rule


class InvalidNumber(GoneError):
    """No such number can be."""

    def __init__(self, number):
        super().__init__("no such number")
        self.number = number


class NothingToUndo(GoneError):
    """There are fewer steps to undo, or to do again."""

    def __init__(self, many):
        super().__init__("there are fewer steps")
        self.many = many


class Stopped(GoneError):
    """The command with this index is refused."""

    def __init__(self, index):
        super().__init__("a command is refused")
        self.index = index


class Misled(GoneError):
    """A program is misled, as the paper shows."""

    def __init__(self, word, paper):
        super().__init__("a program is misled")
        self.word = word
        self.paper = paper


class UnknownName(LookupError):
    """Nothing has this name."""

    def __init__(self, word):
        super().__init__("nothing has this name")
        self.word = word


class TooMany(OverflowError):
    """There are more than the limit."""

    def __init__(self, limit):
        super().__init__("there are too many")
        self.limit = limit
