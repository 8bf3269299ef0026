"""What a keeper keeps. Of all that is handed in here it is known that it is good."""

from strikehall.anew import Coming, things_in
from strikehall.errors import BadQuestion
from strikehall.strikes import standing_in


class Kept:
    """A program, what stands in it, and how it came to that."""

    def __init__(self, made):
        self.made = made
        self.judged = standing_in(made)
        # The things gone through last, how many were gone through in all, and the (program, JUDGED) of earlier.
        self.last = things_in(made[1])
        self.many = len(self.last)
        self.earlier = []

    def take(self, comes, f):
        """Take the program that is another one in its function F alone."""
        coming = Coming(self.made, comes, f)
        touched = coming.touched()
        judged = coming.standing_by(self.judged, touched)
        self.earlier.append((self.made, self.judged))
        self.made = comes
        self.judged = judged
        self.last = touched
        self.many += len(touched)

    def undo(self):
        """Go back to the program of earlier; BadQuestion where there is none."""
        if not self.earlier:
            raise BadQuestion("no change to take back")
        self.made, self.judged = self.earlier.pop()
        self.last = ()
