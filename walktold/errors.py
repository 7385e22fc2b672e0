"""The refusals of the program, one class each."""


class WalkError(ValueError):
    """Any refusal."""


class NoBoard(WalkError):
    """A tuple of texts is no board: `at` is the number of the first wrong word."""

    def __init__(self, at):
        self.at = at


class NoMap(WalkError):
    """A pair is no map: `at` is the number of the first wrong street, -1 for the rooms."""

    def __init__(self, at):
        self.at = at


class BadText(WalkError):
    """A text can't be read: `row` is the number of the first row that can't be one."""

    def __init__(self, row):
        self.row = row


class IsFixed(WalkError):
    """There are no twins of a word that the board fixes."""


class TooMany(WalkError):
    """A reader has more rows than `most`."""

    def __init__(self, most):
        self.most = most


class NoRow(WalkError):
    """A desk was asked with a row that it doesn't know."""
