"""Runs, facts, needs and strikes once more, just as the document's words go, without any care for time.

Nothing here comes from the program, so that both can be held against one another.
"""

import sys

# A run of 300 steps may be as many calls within one another.
sys.setrecursionlimit(max(sys.getrecursionlimit(), 5000))
NONE = ("", "")


class Fault(Exception):
    pass


class Limit(Exception):
    pass


class Runner:
    """A run that calls itself for each call."""

    def __init__(self, program, inputs, limit):
        self.functions = program[1]
        self.limit = limit
        self.came = []
        self.calls = [(0, inputs)]
        # Of each give that is come to: (F, what was handed on, what is given).
        self.gives = []
        self.end = self.whole(inputs)

    def whole(self, inputs):
        try:
            return ("give", self.call(0, inputs))
        except Fault as fault:
            return ("fault", fault.args[0], *self.came[-1])
        except Limit:
            return ("limit",)

    def call(self, f, args):
        _, params, _, body = self.functions[f]
        names = {name: worth for (name, _), worth in zip(params, args)}
        return self.body(f, 0, body, names, args)

    def body(self, f, n, body, names, args):
        if len(self.came) == self.limit:
            raise Limit()
        self.came.append((f, n))
        if body[0] == "give":
            self.gives.append((f, args, self.arg(body[1], names)))
            return self.gives[-1][2]
        if body[0] == "if":
            if self.atom(body[1], names) <= self.atom(body[2], names):
                return self.body(f, n + 1, body[3], names, args)
            return self.body(f, n + 1 + size(body[3]), body[4], names, args)
        if body[0] == "must":
            if self.atom(body[1], names) > self.atom(body[2], names):
                raise Fault("must")
        else:
            names = {**names, body[1]: self.right(f, n, body[2], names)}
        return self.body(f, n + 1, body[3], names, args)

    def atom(self, atom, names):
        return atom[1] if atom[0] == "num" else names[atom[1]] + atom[2]

    def arg(self, arg, names):
        return names[arg[1]] if arg[0] == "row" else self.atom(arg, names)

    def right(self, f, n, right, names):
        if right[0] == "call":
            called = number_of(self.functions, right[1])
            args = tuple(self.arg(arg, names) for arg in right[2])
            self.calls.append((called, args))
            return self.call(called, args)
        if right[0] in ("be", "sum"):
            return sum(self.atom(atom, names) for atom in right[1:])
        row = list(names[right[1]])
        numbers = [self.atom(atom, names) for atom in right[2:]]
        if right[0] == "long":
            return len(row)
        if right[0] == "cut":
            if numbers[0] not in range(len(row) + 1):
                raise Fault("cut")
            return tuple(row[k] for k in range(numbers[0]))
        if numbers[0] not in range(len(row)):
            raise Fault("part")
        if right[0] == "part":
            return row[numbers[0]]
        row[numbers[0]] = numbers[1]
        return tuple(row)


def number_of(functions, name):
    return [function[0] for function in functions].index(name)


def size(body):
    return 1 + sum(size(inner) for inner in body[3:])


def nodes_with_ways(body, n=0, way=()):
    """A list of (N, NODE, WAY), WAY a list of (NODE, WHICH)."""
    told = [(n, body, way)]
    for which, inner in enumerate(body[3:]):
        told += nodes_with_ways(inner, n + 1 if which == 0 else n + 1 + size(body[3]), way + ((body, which),))
    return told


def node_with_way(program, f, n):
    for number, node, way in nodes_with_ways(program[1][f][3]):
        if number == n:
            return node, way


def norm(one, other, most):
    """(TERM, C) no more than (TERM, C) and most, as a list of at most one saying."""
    saying = (one[0], other[0], most + other[1] - one[1])
    if one[0] == other[0]:
        return [] if saying[2] >= 0 else [(*NONE, saying[2])]
    return [saying]


def place(atom):
    return {"num": lambda: ("", atom[1]), "at": lambda: atom[1:], "row": lambda: ("#" + atom[1], 0)}[atom[0]]()


def equal(one, other):
    return norm(one, other, 0) + norm(other, one, 0)


def put(sayings, places):
    told = []
    for one, other, most in sayings:
        told += norm(places.get(one, (one, 0)), places.get(other, (other, 0)), most)
    return told


def let_kind(program, right):
    if right[0] == "call":
        return program[1][number_of(program[1], right[1])][2]
    return {"with": "row", "cut": "row"}.get(right[0], "number")


def term(name, kind):
    return {"number": name, "row": "#" + name}[kind]


def call_places(program, node):
    function = program[1][number_of(program[1], node[2][1])]
    places = {}
    for (name, kind), arg in zip(function[1], node[2][2]):
        places[term(name, kind)] = place(arg)
    places[term("out", function[2])] = (term(node[1], function[2]), 0)
    return places


def needs(program, judged, f, node):
    if node[0] == "give":
        return put(judged[f][1], {term("out", program[1][f][2]): place(node[1])})
    if node[0] == "must":
        return norm(place(node[1]), place(node[2]), 0)
    if node[0] == "let" and node[2][0] in ("part", "with"):
        spot, row = place(node[2][2]), ("#" + node[2][1], 0)
        return norm(("", 0), spot, 0) + norm(spot, row, -1)
    if node[0] == "let" and node[2][0] == "cut":
        spot, row = place(node[2][2]), ("#" + node[2][1], 0)
        return norm(("", 0), spot, 0) + norm(spot, row, 0)
    if node[0] == "let" and node[2][0] == "call":
        return put(judged[number_of(program[1], node[2][1])][0], call_places(program, node))
    return []


def told_behind(program, judged, f, node, which):
    if node[0] == "must":
        return needs(program, judged, f, node)
    if node[0] == "if":
        one, other = place(node[1]), place(node[2])
        return norm(one, other, 0) if which == 0 else norm(other, one, -1)
    _, name, right, _ = node
    told = [("", "#" + name, 0)] if let_kind(program, right) == "row" else []
    if right[0] == "be":
        told += equal((name, 0), place(right[1]))
    if right[0] == "sum":
        one, other = place(right[1]), place(right[2])
        if other[0] == "":
            told += equal((name, 0), (one[0], one[1] + other[1]))
        elif one[0] == "":
            told += equal((name, 0), (other[0], one[1] + other[1]))
    if right[0] == "long":
        told += equal((name, 0), ("#" + right[1], 0))
    if right[0] == "with":
        told += equal(("#" + name, 0), ("#" + right[1], 0))
    if right[0] == "cut":
        told += equal(("#" + name, 0), place(right[2]))
    if right[0] in ("part", "with", "cut"):
        told += needs(program, judged, f, node)
    if right[0] == "call":
        told += put(judged[number_of(program[1], right[1])][1], call_places(program, node))
    return told


def facts(program, judged, f, n):
    _, way = node_with_way(program, f, n)
    told = list(judged[f][0]) + [("", "#" + name, 0) for name, kind in program[1][f][1] if kind == "row"]
    for node, which in way:
        told += told_behind(program, judged, f, node, which)
    return told


class Closed:
    """What follows from facts, by going through all TERMs in the middle of chains."""

    def __init__(self, told):
        self.terms = sorted({term for one, other, _ in told for term in (one, other)})
        self.least = {}
        for one, other, most in told:
            self.least[one, other] = min(most, self.least.get((one, other), most))
        for middle in self.terms:
            for one in self.terms:
                for other in self.terms:
                    if (one, middle) in self.least and (middle, other) in self.least:
                        comes = self.least[one, middle] + self.least[middle, other]
                        self.least[one, other] = min(comes, self.least.get((one, other), comes))
        self.fits = all(self.least.get((one, one), 0) >= 0 for one in self.terms)

    def follows(self, saying):
        one, other, most = saying
        return not self.fits or one != other and (one, other) in self.least and self.least[one, other] <= most


def struck(program, judged, f, n):
    node, _ = node_with_way(program, f, n)
    if node[0] == "give":
        thing, sayings, places = (f, "end"), judged[f][1], {term("out", program[1][f][2]): place(node[1])}
    elif node[0] == "let" and node[2][0] == "call":
        called = number_of(program[1], node[2][1])
        thing, sayings, places = (called, "entry"), judged[called][0], call_places(program, node)
    else:
        return []
    closed = Closed(facts(program, judged, f, n))
    return [(*thing, saying) for saying in sayings
            if not all(closed.follows(need) for need in put((saying,), places))]


def all_nodes(program):
    return [(f, n) for f, function in enumerate(program[1]) for n in range(size(function[3]))]


def struck_anywhere(program, judged):
    return tuple(sorted({gone for f, n in all_nodes(program) for gone in struck(program, judged, f, n)}))


def without(judged, gone):
    """The JUDGED without what is struck."""
    return tuple(
        tuple(tuple(saying for saying in sayings if (f, side, saying) not in gone)
              for side, sayings in zip(("entry", "end"), pair))
        for f, pair in enumerate(judged))


def rounds(program, judged):
    told = []
    while True:
        gone = struck_anywhere(program, judged)
        if not gone:
            return told, judged
        told.append(gone)
        judged = without(judged, set(gone))
