"""The refusals of the program."""


class MillError(ValueError):
    """Any refusal."""


class NoScript(MillError):
    """A text that writes no script; row is the first row with which none can go on."""

    def __init__(self, row):
        MillError.__init__(self, f"no script goes on with row {row}")
        self.row = row


class TooMany(MillError):
    """More standings or pairs than are gone through."""


class NoForm(MillError):
    """A row that is of no form the desk knows."""


class NoneYet(MillError):
    """A thing that is asked of the desk ahead of there being one."""
