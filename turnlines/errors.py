"""The errors of the package, each with the value that it is about."""


class TurnError(ValueError):
    """What all errors of the package are derived from."""


class InvalidOrder(TurnError):
    """What should be an order is none."""

    def __init__(self, value=None):
        self.value = value


class InvalidRow(TurnError):
    """What should be a row of letters is none."""

    def __init__(self, value=None):
        self.value = value


class InvalidNumber(TurnError):
    """What should be a whole number within bounds is none."""

    def __init__(self, value=None):
        self.value = value


class InvalidDeed(TurnError):
    """What should be a deed is none."""

    def __init__(self, value=None):
        self.value = value


class InvalidWord(TurnError):
    """What should be a word is none."""

    def __init__(self, value=None):
        self.value = value


class InvalidSet(TurnError):
    """What should be a set of an order's letters is none."""

    def __init__(self, value=None):
        self.value = value


class InvalidTable(TurnError):
    """What should be a table or a list of sizes is none."""

    def __init__(self, value=None):
        self.value = value


class InvalidLengths(TurnError):
    """What should be lengths of an order's letters is none."""

    def __init__(self, value=None):
        self.value = value


class InvalidCell(TurnError):
    """What should be a cell of the line is none."""

    def __init__(self, value=None):
        self.value = value


class InvalidRun(TurnError):
    """What should be runs is none."""

    def __init__(self, value=None):
        self.value = value


class Unlike(TurnError):
    """Two orders that should have the same size do not."""

    def __init__(self, value=None):
        self.value = value


class TooMany(TurnError):
    """What would be told is more than the bound allows."""

    def __init__(self, value=None):
        self.value = value
