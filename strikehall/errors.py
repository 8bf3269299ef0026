"""The refusals that the program tells."""


class StrikeError(ValueError):
    """Any refusal."""


class BadProgram(StrikeError):
    """No program; place is the number of the function at fault, or -1."""

    def __init__(self, place):
        StrikeError.__init__(self, f"no program, place {place}")
        self.place = place


class BadText(StrikeError):
    """No text of a program; row is the number of the row at fault, or -1."""

    def __init__(self, row):
        StrikeError.__init__(self, f"no text of a program, row {row}")
        self.row = row


class BadPaper(StrikeError):
    """No paper of a program; place is a tuple that tells where it fails."""

    def __init__(self, place):
        StrikeError.__init__(self, f"no paper, place {place}")
        self.place = place


class BadInput(StrikeError):
    """No inputs of a program."""


class BadSaying(StrikeError):
    """No facts, no saying, or no terms of a saying."""


class BadJudged(StrikeError):
    """Nothing that judges the program."""


class BadQuestion(StrikeError):
    """A number, a side or the like that the program does not have."""
