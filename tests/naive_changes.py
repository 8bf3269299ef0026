"""What hangs on what, and what a change touches, once more, just as the document's words go."""

from tests.naive import all_nodes, node_with_way, number_of


def things(program):
    return tuple(sorted((f, side) for f in range(len(program[1])) for side in ("entry", "end") if (f, side) != (0, "entry")))


def called_at(program, node):
    """The number of the function that the node calls, None where it calls none."""
    return number_of(program[1], node[2][1]) if node[0] == "let" and node[2][0] == "call" else None


def straight(program, thing):
    told = set()
    for f, n in all_nodes(program):
        node, way = node_with_way(program, f, n)
        called = called_at(program, node)
        if thing == (called, "entry") or node[0] == "give" and thing == (f, "end"):
            told.add((f, "entry"))
            told |= {(called_at(program, ahead), "end") for ahead, _ in way if called_at(program, ahead) is not None}
    return tuple(sorted(told - {thing, (0, "entry")}))


def hung(program, thing):
    told = set(straight(program, thing))
    while True:
        more = told | {other for one in told for other in straight(program, one)}
        if more == told:
            return tuple(sorted(told))
        told = more


def pool(program):
    """The numbers of the program, as they stand in it anywhere."""
    told = {-1, 0, 1}

    def go(thing):
        if type(thing) is int:
            told.add(thing)
        if type(thing) is tuple:
            for part in thing:
                go(part)
    go(program)
    return told


def changed(program, change):
    given, functions = program
    if change[0] == "drop":
        return given, functions[:-1]
    return given, functions[:change[1]] + (change[2],) + functions[change[1] + 1:]


def calls_in(program, f):
    return {(called_at(program, node_with_way(program, g, n)[0]), "entry") for g, n in all_nodes(program) if g == f}


def touched(program, change):
    comes = changed(program, change)
    if pool(program) != pool(comes):
        return things(comes)
    if change[0] == "drop":
        told = calls_in(program, len(program[1]) - 1)
    else:
        f = change[1]
        told = {(f, "end")} | calls_in(comes, f)
        if f == len(program[1]):
            told.add((f, "entry"))
        else:
            told |= calls_in(program, f)
            if program[1][f][1] != change[2][1]:
                told.add((f, "entry"))
    return tuple(thing for thing in things(comes) if thing in told or told & set(hung(comes, thing)))
