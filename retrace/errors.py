"""The refusals, each one a class of its own, so that an asker can take just the one that is meant."""


class RunError(ValueError):
    """Any refusal."""


class NoProgram(RunError):
    """A part of a program is not as told."""


class NoRow(RunError):
    """A row is none, or there is no such row."""


class TooLong(RunError):
    """A program has more numbers than it may have."""


class NoWorld(RunError):
    """A world is not as told."""


class NoText(RunError):
    """A text can't be read."""


class NoStep(RunError):
    """There is no such step."""


class NoCell(RunError):
    """There is no such cell."""


class NoDoor(RunError):
    """A door has no name."""


class NoWord(RunError):
    """A desk's row is not one that it does."""
