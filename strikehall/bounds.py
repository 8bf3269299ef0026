"""What follows from facts, once they are given by pairs of TERMs as chains.py has them."""

from strikehall.chains import facts_from_each, leasts_from, numbers_that_fit


class Bounds:
    """What follows from least facts. The chains from a TERM are gone through once, when they are first asked for."""

    def __init__(self, leasts):
        self.fitting = numbers_that_fit(leasts) is not None
        self.away = facts_from_each(leasts)
        self.found = {}

    def least(self, one, other):
        """The least C for which one TERM is no more than the other and C, None where none is; of facts that fit."""
        if one not in self.found:
            self.found[one] = leasts_from(self.away, one)
        return self.found[one].get(other)

    def shows(self, need):
        """Whether the saying, or ("", "", C), follows."""
        if not self.fitting:
            return True
        one, other, most = need
        if one == other:
            return False
        least = self.least(one, other)
        return least is not None and least <= most
