"""Ways, names and kinds in bodies. All that is handed in here is of good form already."""


def walk(body):
    """A list of (BODY, WAY) of the nodes by number, WAY a tuple of (NUMBER, WHICH) of the nodes ahead."""
    found = []
    waiting = [(body, ())]
    while waiting:
        node, way = waiting.pop()
        number = len(found)
        found.append((node, way))
        inner = node[3:]
        # What is put down last is taken up first, and the first body is numbered ahead of the second one.
        for which in reversed(range(len(inner))):
            waiting.append((inner[which], (*way, (number, which))))
    return found


def number_called(functions, name):
    """The number of the function that a call by that name means, None where it means none."""
    for number, function in enumerate(functions):
        if function[0] == name:
            return number if number > 0 else None
    return None


def kind_of_right(right, functions):
    """The kind that a let gives its name, None where it calls no function."""
    if right[0] == "call":
        called = number_called(functions, right[1])
        return None if called is None else functions[called][2]
    return "row" if right[0] in ("with", "cut") else "number"


def names_with_kinds(params, nodes, functions):
    """A list of (NAME, KIND) of the params, then of the lets by the number of their node."""
    names = list(params)
    for node in nodes:
        if node[0] == "let":
            names.append((node[1], kind_of_right(node[2], functions)))
    return names


def terms_at_entry(params):
    """The TERMs of an entry, rising."""
    return tuple(sorted([""] + [name if kind == "number" else "#" + name for name, kind in params]))


def kind_of_arg(arg):
    """The kind of what is handed on by the arg."""
    return "row" if arg[0] == "row" else "number"


def uses_of_args(args):
    """A list of (NAME, KIND): the names in the args, each with the kind that is wanted of it."""
    return [(arg[1], kind_of_arg(arg)) for arg in args if arg[0] != "num"]


def uses_of_right(right):
    """A list of (NAME, KIND) likewise, of what a let has behind its name."""
    if right[0] == "call":
        return uses_of_args(right[2])
    if right[0] in ("be", "sum"):
        return uses_of_args(right[1:])
    return [(right[1], "row")] + uses_of_args(right[2:])


def uses_of_node(node):
    """A list of (NAME, KIND) likewise, of one node without the bodies in it."""
    if node[0] == "let":
        return uses_of_right(node[2])
    # Of a give these are the one arg, of a must and an if the two atoms.
    return uses_of_args(node[1:3])


def call_fits(right, functions):
    """Whether the call is of a function that may be called, with args of the kinds of its params."""
    called = number_called(functions, right[1])
    if called is None:
        return False
    return [kind_of_arg(arg) for arg in right[2]] == [kind for _, kind in functions[called][1]]


def node_fits(node, kinds, out, functions):
    """Whether the node uses and gives what it should, kinds being those of the names ahead of it."""
    if any([kinds.get(name) != kind for name, kind in uses_of_node(node)]):
        return False
    if node[0] == "give":
        return kind_of_arg(node[1]) == out
    return node[0] != "let" or node[2][0] != "call" or call_fits(node[2], functions)


def head_fits(functions, number):
    """Whether the function's name is unlike those ahead, and its params are unlike one another."""
    name, params = functions[number][:2]
    names = [param for param, _ in params]
    return name not in [ahead[0] for ahead in functions[:number]] and len(set(names)) == len(names)


def first_misfit(functions, number):
    """Where the function's names, kinds or calls first fail: 0 at its head, N + 1 at its node N, else None."""
    if not head_fits(functions, number):
        return 0
    _, params, out, body = functions[number]
    nodes = walk(body)
    taken = [name for name, _ in params]
    for at, (node, way) in enumerate(nodes):
        ahead = [nodes[there][0] for there, _ in way]
        kinds = dict(names_with_kinds(params, ahead, functions))
        if not node_fits(node, kinds, out, functions):
            return at + 1
        if node[0] == "let":
            if node[1] in taken:
                return at + 1
            taken.append(node[1])
    return None
