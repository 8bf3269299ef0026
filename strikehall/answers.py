"""The answers of a desk, by what it keeps: one function for each first word of a line. None stands for "no line"."""

from strikehall.anew import changed_at
from strikehall.bodies import nodes_in
from strikehall.bounds import Bounds
from strikehall.chains import least_facts
from strikehall.errors import BadInput, BadQuestion, BadSaying
from strikehall.facts import facts_on_way, needs_at_node
from strikehall.faults import end_text_in, inputs_text
from strikehall.lines import read_inputs, read_number_below, read_put, read_saying
from strikehall.rounds import all_spots, go_round
from strikehall.runs import MOST_STEPS, Ground, are_inputs, run_over
from strikehall.shown import dead_in, open_in
from strikehall.texts import program_rows, read_program, saying_text, text_of_rows
from strikehall.trying import MOST_WEIGHT, first_break_in, first_fault_in
from strikehall.ways import SIDES, candidates_in, is_saying_of, terms_of_side


def listed(texts):
    """Several things as one text."""
    return ", ".join(texts) if texts else "none"


def number_named(kept, name):
    """The number of the function of that name, None where there is none."""
    names = [function[0] for function in kept.made[1]]
    return names.index(name) if name in names else None


def named(kept, pairs):
    """The text of pairs (F, N), or (F, SIDE)."""
    return listed([f"{kept.made[1][f][0]} {what}" for f, what in pairs])


def answer_stands(kept, words):
    """Tell what stands at a side of a function."""
    name, side = words
    f = number_named(kept, name)
    if f is None or side not in SIDES:
        return None
    return listed([saying_text(saying) for saying in kept.judged[f][SIDES.index(side)]])


def answer_needs(kept, words):
    """Tell what is needed at a node, and whether that is shown by what stands."""
    functions = kept.made[1]
    f = number_named(kept, words[0])
    if f is None:
        return None
    nodes = nodes_in(functions[f][3])[0]
    n = read_number_below(words[1], len(nodes))
    if n is None:
        return None
    bounds = Bounds(least_facts(facts_on_way(functions, kept.judged, f, n)))
    needs = needs_at_node(functions, kept.judged, f, nodes[n])
    return listed([saying_text(need) + (" shown" if bounds.shows(need) else " open") for need in needs])


def answer_open(kept, _):
    """Tell the open nodes."""
    return named(kept, open_in(kept.made, kept.judged))


def answer_dead(kept, _):
    """Tell the dead nodes."""
    return named(kept, dead_in(kept.made, kept.judged))


def answer_rounds(kept, _):
    """Tell how many were struck in each round."""
    rounds = go_round(all_spots(kept.made[1]), candidates_in(kept.made))[0]
    return listed([str(len(struck)) for struck in rounds])


def answer_run(kept, words):
    """Tell how the run by these inputs ends; BadInput."""
    inputs = read_inputs(words)
    if inputs is None:
        return None
    if not are_inputs(kept.made, inputs):
        raise BadInput("no inputs of this program")
    return end_text_in(kept.made[1], run_over(Ground(kept.made), inputs, MOST_STEPS).end)


def answer_try(kept, words):
    """Tell the first inputs tried whose run faults, and its end."""
    weight = read_number_below(words[0], MOST_WEIGHT + 1)
    if weight is None:
        return None
    found = first_fault_in(kept.made, weight, MOST_STEPS)
    if found is None:
        return "none"
    inputs, end = found
    return inputs_text(inputs) + " : " + end_text_in(kept.made[1], end)


def answer_break(kept, words):
    """Tell the first inputs tried by whose run the saying is broken; BadSaying."""
    name, side = words[:2]
    f = number_named(kept, name)
    saying = read_saying(words[2:5])
    weight = read_number_below(words[5], MOST_WEIGHT + 1)
    if f is None or side not in SIDES or saying is None or weight is None:
        return None
    if not is_saying_of(saying, terms_of_side(kept.made[1][f], side)):
        raise BadSaying("no saying of these terms")
    inputs = first_break_in(kept.made, f, side, saying, weight, MOST_STEPS)
    return "none" if inputs is None else inputs_text(inputs)


def answer_put(kept, words):
    """Put the function of these rows; BadQuestion, then BadText."""
    told = read_put(words)
    if told is None:
        return None
    k, rows = told
    if k > len(kept.made[1]):
        raise BadQuestion("no function's number, nor the next one")
    parts = program_rows(kept.made)
    # Of the parts the first one is that of GIVEN.
    kept.take(read_program(text_of_rows(parts[:k + 1] + [rows] + parts[k + 2:])), k)
    return "done"


def answer_drop(kept, _):
    """Leave the last function out; BadProgram."""
    comes, f = changed_at(kept.made, ("drop",))
    kept.take(comes, f)
    return "done"


def answer_back(kept, _):
    """Take the last change back; BadQuestion."""
    kept.undo()
    return "done"


def answer_gone(kept, _):
    """Tell the things gone through last."""
    return named(kept, kept.last)


def answer_looked(kept, _):
    """Tell how many things were gone through in all."""
    return str(kept.many)


def answer_program(kept, _):
    """Tell the program's text."""
    return text_of_rows(program_rows(kept.made)).replace("\n", " ; ")


ANSWERS = {
    "stands": answer_stands, "needs": answer_needs, "open": answer_open, "dead": answer_dead, "rounds": answer_rounds,
    "try": answer_try, "break": answer_break, "drop": answer_drop, "back": answer_back, "gone": answer_gone,
    "looked": answer_looked, "program": answer_program}
# How many words stand behind the first one.
LENGTHS = {"stands": 2, "needs": 2, "open": 0, "dead": 0, "rounds": 0, "try": 1, "break": 6, "drop": 0, "back": 0,
           "gone": 0, "looked": 0, "program": 0}


def answer(kept, line):
    """The answer to a text without line ends, None where it is no line; BadInput, BadQuestion and the like."""
    first, _, behind = line.partition(" ")
    if first == "put":
        return answer_put(kept, behind)
    words = line.split(" ")
    if "" in words:
        return None
    if first == "run":
        return answer_run(kept, words[1:])
    if first not in ANSWERS or len(words) != LENGTHS[first] + 1:
        return None
    action = ANSWERS[first]
    return action(kept, words[1:])
