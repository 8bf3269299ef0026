"""What is judged of a program, and by that: the facts on the way to a node, and what is needed there."""

from strikehall.bodies import nodes_in, term_of, terms_at_entry
from strikehall.errors import BadJudged, BadQuestion
from strikehall.facts import facts_on_way, needs_at_node, put_sayings
from strikehall.programs import is_number_below, need_function, need_program

SIDES = ("entry", "end")


def numbers_in(node):
    """A list of the Cs of the node's atoms."""
    if node[0] != "let":
        parts = node[1:3]
    elif node[2][0] == "call":
        parts = node[2][2]
    else:
        parts = [part for part in node[2][1:] if type(part) is tuple]
    return [part[-1] for part in parts if part[0] != "row"]


def pool_in(program):
    """The POOL of what surely is a program."""
    given, functions = program
    numbers = [-1, 0, 1] + [most for _, _, most in given]
    for _, _, _, body in functions:
        for node in nodes_in(body)[0]:
            numbers.extend(numbers_in(node))
    return tuple(sorted(set(numbers)))


def pool_of(program):
    """The POOL of the program; BadProgram."""
    return pool_in(need_program(program))


def terms_at_end(function):
    """The TERMs of the function's END, rising."""
    return tuple(sorted(terms_at_entry(function[1]) + (term_of("out", function[2]),)))


def terms_of_side(function, side):
    """The TERMs of the function's ENTRY or END, rising."""
    return terms_at_entry(function[1]) if side == "entry" else terms_at_end(function)


def entry_terms(program, f):
    """The TERMs of the function's ENTRY, rising; BadProgram, then BadQuestion."""
    return terms_at_entry(need_function(need_program(program), f)[1])


def end_terms(program, f):
    """The TERMs of the function's END, rising; BadProgram, then BadQuestion."""
    return terms_at_end(need_function(need_program(program), f))


def all_sayings(terms, numbers):
    """A tuple of all sayings of rising terms and numbers, rising."""
    return tuple([(one, other, most) for one in terms for other in terms if one != other for most in numbers])


def candidates_by(program, numbers):
    """The CANDIDATES of what surely is a program, these numbers being its POOL."""
    given, functions = program
    judged = [(all_sayings(terms_at_entry(function[1]), numbers), all_sayings(terms_at_end(function), numbers))
              for function in functions]
    judged[0] = (tuple(sorted(set(given))), judged[0][1])
    return tuple(judged)


def candidates_in(program):
    """The CANDIDATES of what surely is a program."""
    return candidates_by(program, pool_in(program))


def candidates(program):
    """The JUDGED of all CANDIDATES, of GIVEN for the first function's entry; BadProgram."""
    return candidates_in(need_program(program))


def is_saying_of(thing, terms):
    """Whether it is a saying of these TERMs, of anything."""
    if type(thing) is not tuple or len(thing) != 3:
        return False
    one, other, most = thing
    if type(one) is not str or type(other) is not str or type(most) is not int:
        return False
    return one in terms and other in terms and one != other


def are_rising_sayings(thing, terms):
    """Whether it is a tuple of sayings of these TERMs, rising, each once, of anything."""
    if type(thing) is not tuple or not all(is_saying_of(saying, terms) for saying in thing):
        return False
    for saying, following in zip(thing, thing[1:]):
        if saying >= following:
            return False
    return True


def is_judged(program, thing):
    """Whether it is JUDGED of what surely is a program, of anything."""
    functions = program[1]
    if type(thing) is not tuple or len(thing) != len(functions):
        return False
    for function, pair in zip(functions, thing):
        if type(pair) is not tuple or len(pair) != 2:
            return False
        entry, end = pair
        if not are_rising_sayings(entry, terms_at_entry(function[1])):
            return False
        if not are_rising_sayings(end, terms_at_end(function)):
            return False
    return True


def need_judged_of(program, thing):
    """The JUDGED itself, of what surely is a program; BadJudged."""
    if not is_judged(program, thing):
        raise BadJudged("nothing that judges this program")
    return thing


def need_judged(program, thing):
    """The JUDGED itself; BadProgram, then BadJudged."""
    return need_judged_of(need_program(program), thing)


def need_node(program, f, n):
    """The function's node of that number, in what surely is a program; BadQuestion."""
    nodes = nodes_in(need_function(program, f)[3])[0]
    if not is_number_below(n, len(nodes)):
        raise BadQuestion("no node's number")
    return nodes[n]


def facts_at(program, judged, f, n):
    """A tuple of the FACTS at the node; BadProgram, then BadJudged, then BadQuestion."""
    need_judged(program, judged)
    need_node(program, f, n)
    return tuple(facts_on_way(program[1], judged, f, n))


def needed_at(program, judged, f, n):
    """A tuple of what is NEEDED at the node; BadProgram, then BadJudged, then BadQuestion."""
    need_judged(program, judged)
    return tuple(needs_at_node(program[1], judged, f, need_node(program, f, n)))


def put_in(sayings, places):
    """A tuple of the sayings with TERMs put, places being a dict from TERMs to pairs (TERM, C)."""
    return tuple(put_sayings(sayings, places))
