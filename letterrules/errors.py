"""The errors of the package."""


class LetterError(ValueError):
    """An argument is none of the things that are asked for."""


class InvalidName(LetterError):
    """Something is not a name, or not an event."""


class InvalidOrder(LetterError):
    """Things and pairs do not belong to an order."""


class InvalidRun(LetterError):
    """Something is not a run, or there is no such run."""


class InvalidPattern(LetterError):
    """Something is not a pattern, or there is no such pattern."""


class InvalidRule(LetterError):
    """Something is not a rule, or there is no such rule."""


class InvalidMarking(LetterError):
    """Something is not a marking, or there is no such marking."""


class InvalidTransport(LetterError):
    """Something is not a transport."""


class InvalidOperation(LetterError):
    """Something cannot be done with these arguments."""


class ParseError(LetterError):
    """A text does not tell a value."""


class InvalidCommand(LetterError):
    """A line is not a command."""


class InvalidNumber(IndexError):
    """A value is not a number that is asked for."""

    def __init__(self, value):
        IndexError.__init__(self, value)
        self.value = value


class UnknownName(KeyError):
    """Nothing has this name."""

    def __init__(self, name):
        KeyError.__init__(self, name)
        self.name = name


class TooMany(OverflowError):
    """There are more things than the limit."""

    def __init__(self, limit):
        OverflowError.__init__(self, limit)
        self.limit = limit


class NoOrder(ArithmeticError):
    """A ring bars an order."""

    def __init__(self, ring):
        ArithmeticError.__init__(self, ring)
        self.ring = ring


class Held(RuntimeError):
    """A transport does not allow a step."""

    def __init__(self, step):
        RuntimeError.__init__(self, step)
        self.step = step


class NothingToUndo(LookupError):
    """There are fewer steps than are to be undone."""

    def __init__(self, many):
        LookupError.__init__(self, many)
        self.many = many
