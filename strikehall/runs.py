"""Inputs and runs."""

from strikehall.bodies import nodes_in, number_called, term_of
from strikehall.errors import BadInput, BadQuestion
from strikehall.programs import is_number_below, need_program

MOST_STEPS = 300
GREATEST = 9
LONGEST = 5


def is_number_input(thing):
    """Whether it is a number that may be in inputs, of anything."""
    return type(thing) is int and -GREATEST <= thing <= GREATEST


def is_input(thing, kind):
    """Whether it may be handed in for a PARAM of that kind, of anything."""
    if kind == "number":
        return is_number_input(thing)
    if type(thing) is not tuple or len(thing) > LONGEST:
        return False
    return all(is_number_input(number) for number in thing)


def is_so(saying, worths):
    """Whether the saying is so, where the TERMs have these numbers."""
    one, other, most = saying
    return worths[one] <= worths[other] + most


def numbers_of_terms(params, worths):
    """A dict from the TERMs of an entry to their numbers, where these are handed on to it."""
    numbers = {"": 0}
    for (name, kind), worth in zip(params, worths):
        numbers[term_of(name, kind)] = len(worth) if kind == "row" else worth
    return numbers


def are_inputs(program, thing):
    """Whether it is INPUTS of what surely is a program, of anything."""
    given, functions = program
    params = functions[0][1]
    if type(thing) is not tuple or len(thing) != len(params):
        return False
    for (_, kind), worth in zip(params, thing):
        if not is_input(worth, kind):
            return False
    numbers = numbers_of_terms(params, thing)
    return all(is_so(saying, numbers) for saying in given)


def need_inputs(program, inputs):
    """The inputs themselves; BadProgram, then BadInput."""
    if not are_inputs(need_program(program), inputs):
        raise BadInput("no inputs of this program")
    return inputs


def atom_worth(atom, worths):
    """The atom's number, where the names have these worths."""
    return atom[1] if atom[0] == "num" else worths[atom[1]] + atom[2]


def arg_worth(arg, worths):
    """The number or the row that the arg has."""
    return worths[arg[1]] if arg[0] == "row" else atom_worth(arg, worths)


def right_worth(right, worths):
    """What a let gives its name where nothing is at fault, of all but a call."""
    word = right[0]
    if word == "be":
        return atom_worth(right[1], worths)
    if word == "sum":
        return atom_worth(right[1], worths) + atom_worth(right[2], worths)
    row = worths[right[1]]
    if word == "long":
        return len(row)
    place = atom_worth(right[2], worths)
    if word == "part":
        return row[place]
    if word == "cut":
        return row[:place]
    return row[:place] + (atom_worth(right[3], worths),) + row[place + 1:]


def fault_of(node, worths):
    """The WORD of the node's fault, None where it has none."""
    if node[0] == "must":
        return None if atom_worth(node[1], worths) <= atom_worth(node[2], worths) else "must"
    if node[0] != "let" or node[2][0] not in ("part", "with", "cut"):
        return None
    word, name, atom = node[2][:3]
    place = atom_worth(atom, worths)
    if word == "cut":
        return None if 0 <= place <= len(worths[name]) else "cut"
    return None if 0 <= place < len(worths[name]) else "part"


class Frame:
    """A function that has been called and hasn't given yet: where it is, and what its names have."""

    def __init__(self, f, nodes, ahead, worths):
        self.f = f
        self.n = 0
        self.nodes = nodes
        self.ahead = ahead
        self.worths = worths

    def node(self):
        """The node that comes."""
        return self.nodes[self.n]

    def let(self, worth):
        """Give the name of the let that comes what it lets, and go on behind it."""
        self.worths[self.node()[1]] = worth
        self.n += 1

    def branch(self):
        """Go into one of the bodies of the if that comes."""
        _, one, other = self.node()[:3]
        if atom_worth(one, self.worths) <= atom_worth(other, self.worths):
            self.n += 1
        else:
            self.n = self.ahead.index((self.n, 1))


class Run:
    """A run: what it has come to so far, and how it ended."""

    def __init__(self, program, inputs):
        self.callees = program[1]
        self.bodies = [nodes_in(function[3]) for function in program[1]]
        self.frames = []
        # The (F, N) of each step, and the (F, ARGS) of each call.
        self.came = []
        self.calls = []
        self.end = None
        self.enter(0, inputs)

    def enter(self, f, worths):
        """Call the function of that number."""
        self.calls.append((f, worths))
        nodes, ahead = self.bodies[f]
        names = {name: worth for (name, _), worth in zip(self.callees[f][1], worths)}
        self.frames.append(Frame(f, nodes, ahead, names))

    def give(self, worth):
        """Go back to where the function was called."""
        self.frames.pop()
        if self.frames:
            self.frames[-1].let(worth)
        else:
            self.end = ("give", worth)

    def step(self):
        """Come to one node more."""
        frame = self.frames[-1]
        node = frame.node()
        self.came.append((frame.f, frame.n))
        fault = fault_of(node, frame.worths)
        if fault is not None:
            self.end = ("fault", fault, frame.f, frame.n)
        elif node[0] == "give":
            self.give(arg_worth(node[1], frame.worths))
        elif node[0] == "if":
            frame.branch()
        elif node[0] == "must":
            frame.n += 1
        elif node[2][0] == "call":
            _, called, args = node[2]
            worths = tuple([arg_worth(arg, frame.worths) for arg in args])
            self.enter(number_called(self.callees, called), worths)
        else:
            frame.let(right_worth(node[2], frame.worths))

    def go(self, limit):
        """Go on to the end."""
        while self.end is None:
            if len(self.came) == limit:
                self.end = ("limit",)
            else:
                self.step()


def run_to_end(program, inputs, limit):
    """The Run, ended; BadProgram, then BadInput, then BadQuestion."""
    need_inputs(program, inputs)
    if not is_number_below(limit, MOST_STEPS + 1):
        raise BadQuestion("no limit")
    ended = Run(program, inputs)
    ended.go(limit)
    return ended


def run(program, inputs, limit):
    """How the run ends; BadProgram, then BadInput, then BadQuestion."""
    return run_to_end(program, inputs, limit).end


def steps_of(program, inputs, limit):
    """How many steps the run has, the limit at the most; refusals as of run."""
    return len(run_to_end(program, inputs, limit).came)


def calls_of(program, inputs, limit):
    """A list of (F, ARGS), (0, INPUTS) and each call whose node is come to, in order; refusals as of run."""
    return run_to_end(program, inputs, limit).calls
