"""The refusals of the package, each straight under RootError."""


class RootError(ValueError):
    """Any refusal."""


class NoPlace(RootError):
    """What was handed in is no place, or no tuple of places, as it is due."""


class NoNumber(RootError):
    """What was handed in is no number within the limits."""


class NoLine(RootError):
    """What was handed in is no beginning, or no row that can be told."""


class NoRoot(RootError):
    """What was handed in is nothing that could be a root."""


class NoTree(RootError):
    """What was handed in is no tree, or no word of one."""


class NoWeb(RootError):
    """No web can be made: number tells which thing of the list is wrong, -1 the number of places."""

    def __init__(self, number):
        self.number = number


class NoText(RootError):
    """A text writes no web: row tells the first row that is wrong, 0 that it is no text."""

    def __init__(self, row):
        self.row = row


class TooGreat(RootError):
    """There are more than may be: many tells how many, most how many there may be."""

    def __init__(self, many, most):
        self.many = many
        self.most = most
