"""The errors of the package; each one carries what was wrong."""


class DividerError(Exception):
    """The base class of all errors of the package."""


class BadScheme(DividerError):
    """The thing is not a scheme."""

    def __init__(self, thing):
        self.thing = thing


class BadDigits(DividerError):
    """The thing is not a digit, a string of digits or a pair of registers."""

    def __init__(self, thing):
        self.thing = thing


class BadLook(DividerError):
    """The thing is not a look."""

    def __init__(self, thing):
        self.thing = thing


class BadMachine(DividerError):
    """The thing is not a machine of the kind that is asked for."""

    def __init__(self, thing):
        self.thing = thing


class BadOperands(DividerError):
    """The thing is not operands of the scheme and kind."""

    def __init__(self, thing):
        self.thing = thing


class BadNumber(DividerError):
    """The thing is not a number, or not a word, of the kind that is asked for."""

    def __init__(self, thing):
        self.thing = thing


class BadMode(DividerError):
    """The thing is not a rounding mode."""

    def __init__(self, thing):
        self.thing = thing


class BadCell(DividerError):
    """The thing is not a cell."""

    def __init__(self, thing):
        self.thing = thing


class BadLogic(DividerError):
    """The thing is not a logic of the machine."""

    def __init__(self, thing):
        self.thing = thing


class BadText(DividerError):
    """The text is not the text of a machine; the line `at` is the first wrong one."""

    def __init__(self, at):
        self.at = at
