"""Nodes, ways, names and kinds in bodies. All that is handed in here is of good form already."""


def nodes_in(body):
    """Lists of the nodes by number, and of the (NUMBER, WHICH) just ahead of each one, None of the first one."""
    nodes = []
    ahead = []
    waiting = [(body, None)]
    while waiting:
        node, comes = waiting.pop()
        number = len(nodes)
        nodes.append(node)
        ahead.append(comes)
        # What is put down last is taken up first, and the first body is numbered ahead of the second one.
        if node[0] == "if":
            waiting.append((node[4], (number, 1)))
        if node[0] != "give":
            waiting.append((node[3], (number, 0)))
    return nodes, ahead


def way_to(ahead, number):
    """A list of (NUMBER, WHICH) of the nodes on the way to that node, from the first one."""
    way = []
    while ahead[number] is not None:
        way.append(ahead[number])
        number = ahead[number][0]
    return way[::-1]


def number_called(functions, name):
    """The number of the function that a call by that name means, None where it means none."""
    for number, function in enumerate(functions):
        if function[0] == name:
            return number if number > 0 else None
    return None


def kind_of_right(right, functions):
    """The kind that a let gives its name, None where it calls no function."""
    if right[0] == "call":
        called = number_called(functions, right[1])
        return None if called is None else functions[called][2]
    return "row" if right[0] in ("with", "cut") else "number"


def names_with_kinds(params, nodes, functions):
    """A list of (NAME, KIND) of the params, then of the lets by the number of their node."""
    names = list(params)
    for node in nodes:
        if node[0] == "let":
            names.append((node[1], kind_of_right(node[2], functions)))
    return names


def term_of(name, kind):
    """The TERM of what has that name."""
    return "#" + name if kind == "row" else name


def terms_at_entry(params):
    """The TERMs of an entry, rising."""
    return tuple(sorted([""] + [term_of(name, kind) for name, kind in params]))
