"""A keeper of a program and what stands."""

from strikehall.anew import changed_at
from strikehall.kept import Kept
from strikehall.programs import need_program


class Keeper:
    """It keeps a program, and what stands in it."""

    def __init__(self, program):
        self.kept = Kept(need_program(program))

    def program(self):
        """The program that is kept."""
        return self.kept.made

    def standing(self):
        """What stands in it."""
        return self.kept.judged

    def change(self, change):
        """Keep the changed program; BadQuestion, then BadProgram."""
        comes, f = changed_at(self.kept.made, change)
        self.kept.take(comes, f)

    def back(self):
        """Take the last change back that isn't taken back yet; BadQuestion where there is none."""
        self.kept.undo()

    def gone(self):
        """The things gone through last, a rising tuple."""
        return self.kept.last

    def looked(self):
        """How many things were gone through in all."""
        return self.kept.many
