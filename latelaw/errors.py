"""The exceptions of the program."""


class LateError(ValueError):
    """The base class of all exceptions that the program raises."""


class BadWork(LateError):
    """A work is not valid."""


class OutOfRange(LateError):
    """An argument is outside of what a function takes."""


class NoRate(LateError):
    """A rate that an answer needs does not exist or is too great."""


class TooLong(LateError):
    """An answer would need more rounds than the program looks at."""


class BadCommand(LateError):
    """A desk does not understand a command."""
