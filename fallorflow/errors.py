"""All errors of the package."""


class FlowError(ValueError):
    """What the invalid values have in common."""


class InvalidForm(FlowError):
    """No form, or no inputs, as asked for."""


class InvalidRows(FlowError):
    """No rows, or no equations, as asked for."""


class InvalidSystem(FlowError):
    """No system, or no call edges of it."""


class InvalidKeep(FlowError):
    """No keep of the system."""


class InvalidChoice(FlowError):
    """No choice of a rule and its unknowns, or no outside."""


class InvalidClaim(FlowError):
    """No claim as asked for."""


class InvalidText(FlowError):
    """No text, or no program."""


class InvalidOperation(FlowError):
    """What is passed does not go with what stands beside it."""


class ParseError(FlowError):
    """A text that cannot be read from some spot on."""

    def __init__(self, spot):
        self.spot = spot


class InvalidNumber(IndexError):
    """A number outside of its bounds."""

    def __init__(self, given):
        self.given = given


class UnknownName(KeyError):
    """A name that nothing has."""

    def __init__(self, asked):
        self.asked = asked


class NothingToUndo(LookupError):
    """Fewer calls are kept than are to be undone."""

    def __init__(self, wanted):
        self.wanted = wanted


class TooMany(OverflowError):
    """More than the limit."""

    def __init__(self, limit):
        self.limit = limit


class Refused(ArithmeticError):
    """What is well formed, but cannot be done, and why."""

    def __init__(self, reason):
        self.reason = reason
