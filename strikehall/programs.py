"""Programs: what is one, its nodes, the ways to them, its names."""

from strikehall.errors import BadProgram, BadQuestion
from strikehall.fitting import first_misfit, names_with_kinds, terms_at_entry, walk

WORDS = ("fn", "let", "if", "else", "give", "be", "sum", "long", "part", "with", "cut", "call", "must", "number",
         "row", "out", "given")
KINDS = ("number", "row")
# What stands behind the word of a let's right side: "a" an atom, "r" the name of a row.
RIGHTS = {"be": "a", "sum": "aa", "long": "r", "part": "ra", "with": "raa", "cut": "ra"}
MOST_NODES = 12
MOST_PARAMS = 3
MOST_FUNCTIONS = 4
MOST_GIVEN = 4


# Types are compared, not asked by isinstance: True is no number here, and what only passes for a tuple, a text
# or a number may be compared and measured in ways of its own.


def is_name(thing):
    """Whether it is a NAME, of anything."""
    if type(thing) is not str or not 1 <= len(thing) <= 6:
        return False
    return all("a" <= sign <= "z" for sign in thing) and thing not in WORDS


def is_tuple_of(thing, many):
    """Whether it is a tuple of that length."""
    return type(thing) is tuple and len(thing) == many


def is_word(thing, words):
    """Whether it is one of these texts."""
    return type(thing) is str and thing in words


def is_small(thing):
    """Whether it is a number that an atom or a given saying may have."""
    return type(thing) is int and -4 <= thing <= 4


def is_number_below(thing, many):
    """Whether it is a number from 0, below that many."""
    return type(thing) is int and 0 <= thing < many


def is_atom(thing):
    """Whether it is an ATOM, of anything."""
    if is_tuple_of(thing, 2):
        return is_word(thing[0], ("num",)) and is_small(thing[1])
    return is_tuple_of(thing, 3) and is_word(thing[0], ("at",)) and is_name(thing[1]) and is_small(thing[2])


def is_arg(thing):
    """Whether it is an ARG, of anything."""
    if is_tuple_of(thing, 2) and is_word(thing[0], ("row",)):
        return is_name(thing[1])
    return is_atom(thing)


def is_args(thing):
    """Whether it is a tuple of ARGs, of anything."""
    return type(thing) is tuple and all(is_arg(arg) for arg in thing)


def is_right(thing):
    """Whether it is a RIGHT, of anything."""
    if type(thing) is not tuple or not thing or type(thing[0]) is not str:
        return False
    if thing[0] == "call":
        return len(thing) == 3 and is_name(thing[1]) and is_args(thing[2])
    if thing[0] not in RIGHTS or len(thing) != 1 + len(RIGHTS[thing[0]]):
        return False
    sorts = RIGHTS[thing[0]]
    return all(is_atom(part) if sort == "a" else is_name(part) for sort, part in zip(sorts, thing[1:]))


def is_node(thing):
    """Whether it has the form of a node, of anything; the bodies in it are not looked at."""
    if is_tuple_of(thing, 2):
        return is_word(thing[0], ("give",)) and is_arg(thing[1])
    if is_tuple_of(thing, 4) and is_word(thing[0], ("let",)):
        return is_name(thing[1]) and is_right(thing[2])
    if is_tuple_of(thing, 4) and is_word(thing[0], ("must",)) or is_tuple_of(thing, 5) and is_word(thing[0], ("if",)):
        return is_atom(thing[1]) and is_atom(thing[2])
    return False


def is_body(thing):
    """Whether it is a BODY by its form, of anything."""
    waiting = [thing]
    many = 0
    while waiting:
        node = waiting.pop()
        many += 1
        # A body may be very deep, or stand many times in another one: no more nodes than may be are gone through.
        if many > MOST_NODES or not is_node(node):
            return False
        waiting.extend(node[3:])
    return True


def is_params(thing):
    """Whether it is a tuple of PARAMS by its form, of anything."""
    if type(thing) is not tuple or len(thing) > MOST_PARAMS:
        return False
    return all(is_tuple_of(pair, 2) and is_name(pair[0]) and is_word(pair[1], KINDS) for pair in thing)


def is_function(thing):
    """Whether it is a FUNCTION by its form, of anything."""
    if not is_tuple_of(thing, 4):
        return False
    name, params, out, body = thing
    return is_name(name) and is_params(params) and is_word(out, KINDS) and is_body(body)


def is_given(thing, terms):
    """Whether it is one of GIVEN, of anything, where the entry has these TERMs."""
    if not is_tuple_of(thing, 3):
        return False
    one, other, most = thing
    return is_word(one, terms) and is_word(other, terms) and one != other and is_small(most)


def place_at_fault(thing):
    """The place by which it is refused as a program, of anything; None where it is one."""
    if not is_tuple_of(thing, 2) or type(thing[0]) is not tuple or type(thing[1]) is not tuple:
        return -1
    given, functions = thing
    if not 1 <= len(functions) <= MOST_FUNCTIONS:
        return -1
    for number, function in enumerate(functions):
        if not is_function(function):
            return number
    for number in range(len(functions)):
        if first_misfit(functions, number) is not None:
            return number
    terms = terms_at_entry(functions[0][1])
    if len(given) > MOST_GIVEN or not all(is_given(saying, terms) for saying in given):
        return -1
    return None


def is_program(thing):
    """Whether it is a PROGRAM, of anything."""
    return place_at_fault(thing) is None


def need_program(thing):
    """The program itself; BadProgram."""
    place = place_at_fault(thing)
    if place is not None:
        raise BadProgram(place)
    return thing


def need_function(program, f):
    """The function of that number; BadProgram, then BadQuestion."""
    need_program(program)
    if not is_number_below(f, len(program[1])):
        raise BadQuestion("no function's number")
    return program[1][f]


def nodes_of(program, f):
    """A list of the BODYs at the function's nodes, by number; BadProgram, then BadQuestion."""
    return [node for node, _ in walk(need_function(program, f)[3])]


def ahead_of(program, f, n):
    """A tuple of (NUMBER, WHICH) of the nodes on the way to the node; BadProgram, then BadQuestion."""
    nodes = walk(need_function(program, f)[3])
    if not is_number_below(n, len(nodes)):
        raise BadQuestion("no node's number")
    return nodes[n][1]


def kinds_of(program, f):
    """A dict from all names of the function, rising, to their kinds; BadProgram, then BadQuestion."""
    nodes = nodes_of(program, f)
    kinds = dict(names_with_kinds(program[1][f][1], nodes, program[1]))
    return {name: kinds[name] for name in sorted(kinds)}
