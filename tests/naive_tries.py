"""What is shown, broken, tried and found in runs once more, just as the document's words go."""

import itertools

from tests.naive import Closed, Runner, all_nodes, facts, needs, node_with_way


def shown(program, judged, f, n):
    """A list of (NEED, whether it is shown) at the node."""
    closed = Closed(facts(program, judged, f, n))
    return [(need, closed.follows(need)) for need in needs(program, judged, f, node_with_way(program, f, n)[0])]


def may_be_open(node):
    return node[0] == "must" or node[0] == "let" and node[2][0] in ("part", "with", "cut")


def open_by(program, judged):
    return [(f, n) for f, n in all_nodes(program) if may_be_open(node_with_way(program, f, n)[0])
            and not all(so for _, so in shown(program, judged, f, n))]


def dead_by(program, judged):
    return [(f, n) for f, n in all_nodes(program) if not Closed(facts(program, judged, f, n)).fits]


def numbers_of(params, worths):
    """The numbers of the TERMs, by the names that stand for what is handed on."""
    told = {"": 0}
    for (name, kind), worth in zip(params, worths):
        told["#" + name if kind == "row" else name] = len(worth) if kind == "row" else worth
    return told


def so(saying, numbers):
    one, other, most = saying
    return numbers[one] <= numbers[other] + most


def broken(program, inputs, limit, f, side, saying):
    slow = Runner(program, inputs, limit)
    _, params, out, _ = program[1][f]
    if side == "entry":
        return any(not so(saying, numbers_of(params, args)) for g, args in slow.calls if g == f)
    return any(not so(saying, numbers_of(params + (("out", out),), args + (given,)))
               for g, args, given in slow.gives if g == f)


def weight(thing):
    if type(thing) is int:
        return abs(thing)
    return len(thing) + sum(weight(number) for number in thing)


def tried(program, most):
    """All inputs of that weight or less, out of all that might be."""
    some = range(-most, most + 1)
    rows = [row for many in range(most + 1) for row in itertools.product(some, repeat=many) if weight(row) <= most]
    given, functions = program
    params = functions[0][1]
    told = []
    for inputs in itertools.product(*[some if kind == "number" else rows for _, kind in params]):
        whole = sum(weight(worth) for worth in inputs)
        if whole <= most and all(so(saying, numbers_of(params, inputs)) for saying in given):
            told.append((whole, inputs))
    return [inputs for _, inputs in sorted(told)]
