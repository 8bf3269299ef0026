"""Inputs tried, by weight, and what their runs show."""

from strikehall.errors import BadQuestion
from strikehall.faults import is_broken_by, need_saying_at
from strikehall.programs import is_number_below, need_program
from strikehall.runs import Ground, are_given, need_limit, run_over

MOST_WEIGHT = 4


def need_weight(weight):
    """Refuse what is no weight; BadQuestion."""
    if not is_number_below(weight, MOST_WEIGHT + 1):
        raise BadQuestion("no weight")


def weight_of(inputs):
    """The WEIGHT of good inputs."""
    numbers = []
    for worth in inputs:
        if type(worth) is tuple:
            numbers.append(len(worth))
            numbers.extend(worth)
        else:
            numbers.append(worth)
    return sum([abs(number) for number in numbers])


def numbers_of_weight(weight):
    """A list of the numbers of that weight."""
    return [0] if weight == 0 else [-weight, weight]


def rows_by_weight(most):
    """A list by weights, up to the most, of lists of the rows of that weight."""
    rows = [[()]]
    for weight in range(1, most + 1):
        # The first number, and one for its place, take some of the weight, the numbers behind it have the others.
        rows.append([(number,) + behind for taken in range(weight) for number in numbers_of_weight(taken)
                     for behind in rows[weight - 1 - taken]])
    return rows


def worths_by_weight(kind, most):
    """A list by weights, up to the most, of lists of what of that kind has that weight."""
    return rows_by_weight(most) if kind == "row" else [numbers_of_weight(weight) for weight in range(most + 1)]


def tuples_by_weight(params, most):
    """A list by weights, up to the most, of lists of what may be handed in, whatever is GIVEN."""
    tuples = [[()]] + [[] for _ in range(most)]
    for _, kind in params:
        worths = worths_by_weight(kind, most)
        tuples = [[ahead + (worth,) for taken in range(weight + 1) for worth in worths[taken]
                   for ahead in tuples[weight - taken]] for weight in range(most + 1)]
    return tuples


def tried(program, weight):
    """A list of the inputs of what surely is a program that are tried by that weight."""
    given, functions = program
    params = functions[0][1]
    found = []
    for inputs in tuples_by_weight(params, weight):
        found.extend([handed for handed in sorted(inputs) if are_given(given, params, handed)])
    return found


def inputs_tried(program, weight):
    """A list of the inputs tried by that weight, in order; BadProgram, then BadQuestion."""
    need_program(program)
    need_weight(weight)
    return tried(program, weight)


def first_fault_in(program, weight, limit):
    """The first inputs tried whose run faults, and its end, None where there are none; all good."""
    ground = Ground(program)
    for inputs in tried(program, weight):
        end = run_over(ground, inputs, limit).end
        if end[0] == "fault":
            return inputs, end
    return None


def first_fault(program, weight, limit):
    """(INPUTS, END) of the first inputs tried whose run faults, or None; BadProgram, then BadQuestion."""
    need_program(program)
    need_weight(weight)
    need_limit(limit)
    return first_fault_in(program, weight, limit)


def all_faults(program, weight, limit):
    """A rising list of (F, N, WORD, INPUTS), each fault with the first inputs tried; BadProgram, then BadQuestion."""
    need_program(program)
    need_weight(weight)
    need_limit(limit)
    ground = Ground(program)
    firsts = {}
    for inputs in tried(program, weight):
        end = run_over(ground, inputs, limit).end
        if end[0] == "fault":
            _, word, f, n = end
            firsts.setdefault((f, n, word), inputs)
    return [(f, n, word, firsts[f, n, word]) for f, n, word in sorted(firsts)]


def first_break_in(program, f, side, saying, weight, limit):
    """The first inputs tried by whose run the saying is broken, None where there are none; all good."""
    ground = Ground(program)
    for inputs in tried(program, weight):
        if is_broken_by(run_over(ground, inputs, limit), f, program[1][f], side, saying):
            return inputs
    return None


def first_break(program, f, side, saying, weight, limit):
    """The first inputs tried by whose run it is broken, or None; BadProgram, BadQuestion, BadSaying, BadQuestion."""
    need_saying_at(need_program(program), f, side, saying)
    need_weight(weight)
    need_limit(limit)
    return first_break_in(program, f, side, saying, weight, limit)
