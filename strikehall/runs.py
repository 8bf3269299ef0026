"""Inputs and runs."""

from strikehall.bodies import nodes_in, term_of
from strikehall.errors import BadInput, BadQuestion
from strikehall.facts import is_so
from strikehall.programs import is_number_below, need_program

MOST_STEPS = 300
GREATEST = 9
LONGEST = 5


def is_number_input(thing):
    """Whether it is a number that may be in inputs, of anything."""
    return type(thing) is int and -GREATEST <= thing <= GREATEST


def is_input(thing, kind):
    """Whether it may be handed in for a PARAM of that kind, of anything."""
    if kind == "number":
        return is_number_input(thing)
    if type(thing) is not tuple or len(thing) > LONGEST:
        return False
    return all(is_number_input(number) for number in thing)


def numbers_of_terms(params, worths):
    """A dict from the TERMs of an entry to their numbers, where these are handed on to it."""
    numbers = {"": 0}
    for (name, kind), worth in zip(params, worths):
        numbers[term_of(name, kind)] = len(worth) if kind == "row" else worth
    return numbers


def are_given(given, params, worths):
    """Whether all of GIVEN is so, where these are handed in."""
    numbers = numbers_of_terms(params, worths)
    return all(is_so(saying, numbers) for saying in given)


def are_inputs(program, thing):
    """Whether it is INPUTS of what surely is a program, of anything."""
    given, functions = program
    params = functions[0][1]
    if type(thing) is not tuple or len(thing) != len(params):
        return False
    for (_, kind), worth in zip(params, thing):
        if not is_input(worth, kind):
            return False
    return are_given(given, params, thing)


def need_inputs(program, inputs):
    """The inputs themselves; BadProgram, then BadInput."""
    if not are_inputs(need_program(program), inputs):
        raise BadInput("no inputs of this program")
    return inputs


def atom_worth(atom, worths):
    """The atom's number, where the names have these worths."""
    return atom[1] if atom[0] == "num" else worths[atom[1]] + atom[2]


def arg_worth(arg, worths):
    """The number or the row that the arg has."""
    return worths[arg[1]] if arg[0] == "row" else atom_worth(arg, worths)


def right_worth(right, worths):
    """What a let gives its name where nothing is at fault, of all but a call."""
    word = right[0]
    if word == "be":
        return atom_worth(right[1], worths)
    if word == "sum":
        return atom_worth(right[1], worths) + atom_worth(right[2], worths)
    row = worths[right[1]]
    if word == "long":
        return len(row)
    place = atom_worth(right[2], worths)
    if word == "part":
        return row[place]
    if word == "cut":
        return row[:place]
    return row[:place] + (atom_worth(right[3], worths),) + row[place + 1:]


def fault_of(node, worths):
    """The WORD of the node's fault, None where it has none."""
    if node[0] == "must":
        return None if atom_worth(node[1], worths) <= atom_worth(node[2], worths) else "must"
    if node[0] != "let" or node[2][0] not in ("part", "with", "cut"):
        return None
    word, name, atom = node[2][:3]
    place = atom_worth(atom, worths)
    if word == "cut":
        return None if 0 <= place <= len(worths[name]) else "cut"
    return None if 0 <= place < len(worths[name]) else "part"


class Ground:
    """What all runs of a program go over: of each function its params, its nodes, and who is meant by a name."""

    def __init__(self, program):
        self.params = [params for _, params, _, _ in program[1]]
        self.called = {function[0]: f for f, function in enumerate(program[1])}
        self.nodes = []
        # Of each function a dict from the numbers of its ifs to those of their second bodies.
        self.others = []
        for function in program[1]:
            nodes, ahead = nodes_in(function[3])
            self.nodes.append(nodes)
            self.others.append({comes[0]: n for n, comes in enumerate(ahead) if comes is not None and comes[1] == 1})


class Frame:
    """A function that has been called and hasn't given yet: where it is, what was handed on, what its names have."""

    def __init__(self, f, handed, worths):
        self.f = f
        self.n = 0
        self.handed = handed
        self.worths = worths

    def let(self, name, worth):
        """Give the name what is let, and go on behind the let."""
        self.worths[name] = worth
        self.n += 1


class Run:
    """A run: what it has come to so far, and how it ended."""

    def __init__(self, ground, inputs):
        self.ground = ground
        self.frames = []
        # The (F, N) of each step, the (F, ARGS) of each call, the (F, ARGS, WORTH) of each give.
        self.came = []
        self.calls = []
        self.gives = []
        self.end = None
        self.enter(0, inputs)

    def enter(self, f, handed):
        """Call the function of that number."""
        self.calls.append((f, handed))
        self.frames.append(Frame(f, handed, {name: worth for (name, _), worth in zip(self.ground.params[f], handed)}))

    def give(self, worth):
        """Go back to where the function was called."""
        frame = self.frames.pop()
        self.gives.append((frame.f, frame.handed, worth))
        if self.frames:
            frame = self.frames[-1]
            frame.let(self.ground.nodes[frame.f][frame.n][1], worth)
        else:
            self.end = ("give", worth)

    def branch(self, frame, node):
        """Go into one of the bodies of the if."""
        if atom_worth(node[1], frame.worths) <= atom_worth(node[2], frame.worths):
            frame.n += 1
        else:
            frame.n = self.ground.others[frame.f][frame.n]

    def step(self):
        """Come to one node more."""
        frame = self.frames[-1]
        node = self.ground.nodes[frame.f][frame.n]
        self.came.append((frame.f, frame.n))
        fault = fault_of(node, frame.worths)
        if fault is not None:
            self.end = ("fault", fault, frame.f, frame.n)
        elif node[0] == "give":
            self.give(arg_worth(node[1], frame.worths))
        elif node[0] == "if":
            self.branch(frame, node)
        elif node[0] == "must":
            frame.n += 1
        elif node[2][0] == "call":
            _, called, args = node[2]
            self.enter(self.ground.called[called], tuple([arg_worth(arg, frame.worths) for arg in args]))
        else:
            frame.let(node[1], right_worth(node[2], frame.worths))

    def go(self, limit):
        """Go on to the end."""
        while self.end is None:
            if len(self.came) == limit:
                self.end = ("limit",)
            else:
                self.step()


def need_limit(limit):
    """Refuse what is no limit; BadQuestion."""
    if not is_number_below(limit, MOST_STEPS + 1):
        raise BadQuestion("no limit")


def run_over(ground, inputs, limit):
    """The Run, ended, of good inputs by a good limit."""
    ended = Run(ground, inputs)
    ended.go(limit)
    return ended


def run_to_end(program, inputs, limit):
    """The Run, ended; BadProgram, then BadInput, then BadQuestion."""
    need_inputs(program, inputs)
    need_limit(limit)
    return run_over(Ground(program), inputs, limit)


def run(program, inputs, limit):
    """How the run ends; BadProgram, then BadInput, then BadQuestion."""
    return run_to_end(program, inputs, limit).end


def steps_of(program, inputs, limit):
    """How many steps the run has, the limit at the most; refusals as of run."""
    return len(run_to_end(program, inputs, limit).came)


def calls_of(program, inputs, limit):
    """A list of (F, ARGS), (0, INPUTS) and each call whose node is come to, in order; refusals as of run."""
    return run_to_end(program, inputs, limit).calls
