"""Programs: what is one, its nodes, the ways to them, its names."""

from strikehall.bodies import names_with_kinds, nodes_in, terms_at_entry, way_to
from strikehall.errors import BadProgram, BadQuestion
from strikehall.looking import place_at_fault
from strikehall.names import is_plain_name

MOST_FUNCTIONS = 4
MOST_GIVEN = 4


def is_name(thing):
    """Whether it is a NAME, of anything."""
    return is_plain_name(thing)


def is_number_below(thing, many):
    """Whether it is a number from 0, below that many."""
    return type(thing) is int and 0 <= thing < many


def is_given(thing, terms):
    """Whether it is one of GIVEN, of anything, where the entry has these TERMs."""
    if type(thing) is not tuple or len(thing) != 3:
        return False
    one, other, most = thing
    if type(one) is not str or type(other) is not str or type(most) is not int:
        return False
    return one in terms and other in terms and one != other and -4 <= most <= 4


def place_of(thing):
    """The place by which it is refused as a program, of anything; None where it is one."""
    if type(thing) is not tuple or len(thing) != 2:
        return -1
    given, functions = thing
    if type(given) is not tuple or type(functions) is not tuple or not 1 <= len(functions) <= MOST_FUNCTIONS:
        return -1
    place = place_at_fault(functions)
    if place is not None:
        return place
    if not given:
        return None
    terms = terms_at_entry(functions[0][1])
    return None if len(given) <= MOST_GIVEN and all(is_given(saying, terms) for saying in given) else -1


def is_program(thing):
    """Whether it is a PROGRAM, of anything."""
    return place_of(thing) is None


def need_program(thing):
    """The program itself; BadProgram."""
    place = place_of(thing)
    if place is not None:
        raise BadProgram(place)
    return thing


def need_function(program, f):
    """The function of that number in what surely is a program; BadQuestion."""
    if not is_number_below(f, len(program[1])):
        raise BadQuestion("no function's number")
    return program[1][f]


def nodes_of(program, f):
    """A list of the BODYs at the function's nodes, by number; BadProgram, then BadQuestion."""
    body = need_function(need_program(program), f)[3]
    return nodes_in(body)[0]


def ahead_of(program, f, n):
    """A tuple of (NUMBER, WHICH) of the nodes on the way to the node; BadProgram, then BadQuestion."""
    body = need_function(need_program(program), f)[3]
    nodes, ahead = nodes_in(body)
    if not is_number_below(n, len(nodes)):
        raise BadQuestion("no node's number")
    return tuple(way_to(ahead, n))


def kinds_of(program, f):
    """A dict from all names of the function, rising, to their kinds; BadProgram, then BadQuestion."""
    _, params, _, body = need_function(need_program(program), f)
    return dict(sorted(names_with_kinds(params, nodes_in(body)[0], program[1])))
