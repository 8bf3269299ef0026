"""Where runs come to, what is broken in them, and runs as texts."""

from strikehall.errors import BadQuestion, BadSaying
from strikehall.facts import is_so
from strikehall.programs import need_function, need_program
from strikehall.runs import numbers_of_terms, run_to_end
from strikehall.ways import SIDES, is_saying_of, terms_of_side


def came_to(program, inputs, limit):
    """A list of (F, N), the nodes come to, in order; BadProgram, then BadInput, then BadQuestion."""
    return run_to_end(program, inputs, limit).came


def need_saying_at(program, f, side, saying):
    """Refuse what is no function's number, no side, then what is no saying there; BadQuestion, then BadSaying."""
    function = need_function(program, f)
    if type(side) is not str or side not in SIDES:
        raise BadQuestion("no side")
    if not is_saying_of(saying, terms_of_side(function, side)):
        raise BadSaying("no saying of these terms")


def is_broken_by(ended, f, function, side, saying):
    """Whether in that Run the saying of that SIDE of the function is broken."""
    _, params, out, _ = function
    if side == "entry":
        worths = [args for number, args in ended.calls if number == f]
    else:
        params = params + (("out", out),)
        worths = [args + (given,) for number, args, given in ended.gives if number == f]
    return not all(is_so(saying, numbers_of_terms(params, handed)) for handed in worths)


def is_broken(program, inputs, limit, f, side, saying):
    """Whether the saying is broken in the run; BadProgram, then BadInput, then BadQuestion, then BadSaying."""
    ended = run_to_end(program, inputs, limit)
    need_saying_at(program, f, side, saying)
    return is_broken_by(ended, f, program[1][f], side, saying)


def worth_text(worth):
    """The text of a number or a row."""
    if type(worth) is tuple:
        return "[" + ",".join([str(number) for number in worth]) + "]"
    return str(worth)


def end_text_in(functions, end):
    """The text of how a run of these functions ended."""
    if end[0] == "give":
        return "give " + worth_text(end[1])
    if end[0] == "fault":
        _, word, f, n = end
        return f"fault {word} {functions[f][0]} {n}"
    return "limit"


def end_text(program, end):
    """The text of how a run of the program ended; BadProgram."""
    return end_text_in(need_program(program)[1], end)


def inputs_text(inputs):
    """The text of good inputs."""
    return " ".join([worth_text(worth) for worth in inputs]) if inputs else "nothing"
