"""The refusals: one class for each, all of them under FitError."""


class FitError(ValueError):
    """Any refusal."""


class NoNumber(FitError):
    """What was handed in makes no number."""


class NoSum(FitError):
    """A sum has a name that isn't there."""


class NoSize(FitError):
    """A size or a row of sizes isn't as it must be, or isn't there."""


class NoMaking(FitError):
    """A making doesn't keep its stock."""


class NoPart(FitError):
    """A part isn't as it must be, or isn't there."""


class NoFace(FitError):
    """A face isn't as it must be, or isn't there."""


class NoJoint(FitError):
    """Faces aren't on one axis."""


class TooMany(FitError):
    """There are more things than may be."""


class NoFit(FitError):
    """It doesn't go together: chain is a chain with a sum below 0, or None."""

    def __init__(self, chain):
        FitError.__init__(self, "it does not go together")
        self.chain = chain


class NoProgram(FitError):
    """A program's lengths aren't as they must be."""


class NoDealing(FitError):
    """Menus or a dealing aren't as they must be, or no dealing will do."""


class NoBins(FitError):
    """Bins aren't as they must be, or no count of them will do."""


class NoSheet(FitError):
    """A sheet is refused: row is the number of the row that is to blame, from 1."""

    def __init__(self, row):
        FitError.__init__(self, f"row {row} of the sheet")
        self.row = row


class NoRow(FitError):
    """A desk has no answer to a row."""
