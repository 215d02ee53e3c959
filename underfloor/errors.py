"""The refusals, each a class of its own."""


class UnderError(ValueError):
    """Any refusal."""


class NoText(UnderError):
    """A text that is no program; line is the number of the line that can't stand."""

    def __init__(self, line):
        UnderError.__init__(self, f"line {line} can't stand")
        self.line = line


class NoCode(UnderError):
    """What is no row of code."""


class NoLack(UnderError):
    """A lack told at a call that can't lack."""


class NoChange(UnderError):
    """What is no change of the floor or of its files."""


class NoRoom(UnderError):
    """Too few frames or blocks are free."""


class NoTask(UnderError):
    """What is no task, or none that can do what is asked."""


class NoState(UnderError):
    """What no pair can begin with."""


class NoNumber(UnderError):
    """A number beyond what is there."""


class NoRow(UnderError):
    """What the desk has no answer for."""
