"""What is struck, and what is left."""

from strikehall.programs import need_program
from strikehall.rounds import all_spots, go_round, left_things, spots_of, struck_at_spot, struck_in_all
from strikehall.ways import candidates_in, need_judged, need_judged_of, need_node


def struck_at(program, judged, f, n):
    """A rising tuple of what is struck at the node; BadProgram, then BadJudged, then BadQuestion."""
    need_judged(program, judged)
    need_node(program, f, n)
    spot = spots_of(program[1], f)[n]
    return () if spot is None else tuple(struck_in_all([spot], left_things(judged)))


def all_struck(program, judged):
    """A rising tuple of what is struck at any node, each once; BadProgram, then BadJudged."""
    need_judged(program, judged)
    return tuple(struck_in_all(all_spots(program[1]), left_things(judged)))


def holds_by(program, judged):
    """Whether nothing is struck; BadProgram, then BadJudged."""
    need_judged(program, judged)
    left = left_things(judged)
    return not any(struck_at_spot(spot, left) for spot in all_spots(program[1]))


def are_among(sayings, others):
    """Whether each of the sayings is one of the others."""
    found = set(others)
    for saying in sayings:
        if saying not in found:
            return False
    return True


def lies_within(program, one, other):
    """Whether each saying of the one JUDGED is in the other one at the same place; BadProgram, then BadJudged."""
    need_judged(program, one)
    need_judged_of(program, other)
    for sides, others in zip(one, other):
        for sayings, around in zip(sides, others):
            if not are_among(sayings, around):
                return False
    return True


def rounds_of(program, judged):
    """A list of rising tuples of what is struck, round by round; BadProgram, then BadJudged."""
    need_judged(program, judged)
    return go_round(all_spots(program[1]), judged)[0]


def left_of(program, judged):
    """The JUDGED that is left; BadProgram, then BadJudged."""
    need_judged(program, judged)
    return go_round(all_spots(program[1]), judged)[1]


def standing_in(program):
    """STANDING of what surely is a program."""
    return go_round(all_spots(program[1]), candidates_in(program))[1]


def standing(program):
    """STANDING, what is left of the CANDIDATES; BadProgram."""
    return standing_in(need_program(program))
