"""What the package refuses with."""


class WorthError(ValueError):
    """Any refusal of the package."""


class BadStep(WorthError):
    """A step of a paper that can't be done."""

    def __init__(self, step):
        super().__init__(f"step {step} can't be done")
        self.step = step


class BadRow(WorthError):
    """A row of a text that isn't written as it must be."""

    def __init__(self, row):
        super().__init__(f"row {row} isn't written right")
        self.row = row


class NoProgram(WorthError):
    """A text that is written right, but of no right program."""
