"""A desk: questions and changes as lines of text."""

from strikehall.answers import answer
from strikehall.errors import BadInput, BadProgram, BadQuestion, BadSaying, BadText
from strikehall.kept import Kept
from strikehall.texts import read_program

NO_LINE = "no line"


class Desk:
    """It keeps a program, at first that of its text, and answers lines."""

    def __init__(self, text):
        self.kept = Kept(read_program(text))

    def say(self, line):
        """The answer to the line, of anything."""
        if type(line) is not str or "\n" in line:
            return NO_LINE
        try:
            told = answer(self.kept, line)
        except BadInput:
            return "refused badinput"
        except BadQuestion:
            return "refused badquestion"
        except BadSaying:
            return "refused badsaying"
        except BadProgram as unfit:
            return f"refused badprogram {unfit.place}"
        except BadText as unread:
            return f"refused badtext {unread.row}"
        return NO_LINE if told is None else told
