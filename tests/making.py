"""Programs of all forms, made by chance from a seed: of like seeds like programs."""

import random

NAMES = list("abcdefghijklmnopqrstuvwxyz") + ["abcdef", "zzzzzz"]
KINDS = ("number", "row")


class Maker:
    def __init__(self, seed):
        self.chance = random.Random(seed)
        self.heads = []
        self.taken = []
        self.nodes = 0

    def program(self):
        names = self.chance.sample(NAMES, self.chance.randint(1, 4))
        self.heads = [self.head(name) for name in names]
        functions = tuple((*head, self.whole_body(*head[1:])) for head in self.heads)
        return (self.given(), functions)

    def head(self, name):
        names = self.chance.sample(NAMES, self.chance.randint(0, 3))
        params = tuple((named, self.chance.choice(KINDS)) for named in names)
        rows = [named for named, kind in params if kind == "row"]
        return (name, params, self.chance.choice(KINDS) if rows else "number")

    def given(self):
        terms = [""] + [name if kind == "number" else "#" + name for name, kind in self.heads[0][1]]
        if len(terms) == 1:
            return ()
        return tuple((*self.chance.sample(terms, 2), self.small()) for _ in range(self.chance.randint(0, 4)))

    def small(self):
        return self.chance.randint(-4, 4)

    def atom(self, kinds):
        names = [name for name in kinds if kinds[name] == "number"]
        if names and self.chance.random() < 0.7:
            return ("at", self.chance.choice(names), self.small())
        return ("num", self.small())

    def row(self, kinds):
        return self.chance.choice([name for name in kinds if kinds[name] == "row"])

    def arg(self, kinds, kind):
        return self.atom(kinds) if kind == "number" else ("row", self.row(kinds))

    def whole_body(self, params, out):
        self.taken = [name for name, _ in params]
        # Each node but the gives takes one off, an if two: it has one give more.
        self.nodes = self.chance.randint(0, 11)
        return self.body(dict(params), out)

    def body(self, kinds, out):
        which = self.chance.random()
        if which < 0.2 and self.nodes >= 2:
            self.nodes -= 2
            return ("if", self.atom(kinds), self.atom(kinds), self.body(kinds, out), self.body(kinds, out))
        if self.nodes == 0:
            return ("give", self.arg(kinds, out))
        self.nodes -= 1
        if which < 0.4:
            return ("must", self.atom(kinds), self.atom(kinds), self.body(kinds, out))
        name = self.chance.choice([name for name in NAMES if name not in self.taken])
        self.taken.append(name)
        right, kind = self.right(kinds)
        return ("let", name, right, self.body({**kinds, name: kind}, out))

    def right(self, kinds):
        """A right side, and the kind of what it gives."""
        has_row = "row" in kinds.values()
        callees = [head for head in self.heads[1:] if has_row or "row" not in dict(head[1]).values()]
        word = self.chance.choice(["be", "sum"] + ["long", "part", "with", "cut"] * has_row + ["call"] * bool(callees) * 2)
        if word == "call":
            name, params, out = self.chance.choice(callees)
            return (word, name, tuple(self.arg(kinds, kind) for _, kind in params)), out
        many = {"be": 1, "sum": 2, "long": 0, "part": 1, "with": 2, "cut": 1}[word]
        first = () if word in ("be", "sum") else (self.row(kinds),)
        right = (word, *first, *[self.atom(kinds) for _ in range(many)])
        return right, "row" if word in ("with", "cut") else "number"
