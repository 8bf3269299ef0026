"""Changed programs: what hangs on what, what a change touches, and what stands then."""

from strikehall.bodies import nodes_in, number_called
from strikehall.errors import BadQuestion
from strikehall.facts import is_call
from strikehall.programs import is_number_below, need_program
from strikehall.rounds import all_spots, go_round
from strikehall.ways import candidates_by, need_judged_of, pool_in

# On this one nothing hangs, and nothing is struck of it: it is no THING.
FIRST_ENTRY = (0, "entry")


def things_in(functions):
    """The THINGS of a program, a rising tuple."""
    things = [(f, side) for f in range(len(functions)) for side in ("end", "entry")]
    return tuple([thing for thing in things if thing != FIRST_ENTRY])


def things_of(program):
    """The THINGS of the program, a rising tuple; BadProgram."""
    return things_in(need_program(program)[1])


def need_thing(program, f, side):
    """The THING (F, SIDE), of what surely is a program; BadQuestion."""
    if not is_number_below(f, len(program[1])) or type(side) is not str or (f, side) not in things_in(program[1]):
        raise BadQuestion("no thing")
    return f, side


def hangs_by(spots):
    """A dict from THINGS to dicts that have the things that they hang on straight, by all Spots."""
    hangs = {}
    for spot in spots:
        straight = hangs.setdefault(spot.thing, {})
        for thing in [(spot.f, "entry")] + [(called, "end") for called, _ in spot.calls]:
            if thing != spot.thing and thing != FIRST_ENTRY:
                straight[thing] = True
    return hangs


def all_hung_on(hangs, thing):
    """A list of the THINGS that the thing hangs on, straight or by others."""
    found = {}
    waiting = [thing]
    while waiting:
        hanging = waiting.pop()
        for other in hangs.get(hanging, {}):
            if other not in found:
                found[other] = True
                waiting.append(other)
    return list(found)


def hangs_straight(program, f, side):
    """A rising tuple of the THINGS that this one hangs on straight; BadProgram, then BadQuestion."""
    thing = need_thing(need_program(program), f, side)
    return tuple(sorted(hangs_by(all_spots(program[1])).get(thing, {})))


def hangs_on(program, f, side):
    """A rising tuple of the THINGS that this one hangs on; BadProgram, then BadQuestion."""
    thing = need_thing(need_program(program), f, side)
    return tuple(sorted(all_hung_on(hangs_by(all_spots(program[1])), thing)))


def place_of_change(functions, change):
    """The number of the function that the change puts, or leaves out; BadQuestion of no change by its form."""
    if type(change) is tuple and change and type(change[0]) is str:
        if change[0] == "put" and len(change) == 3 and is_number_below(change[1], len(functions) + 1):
            return change[1]
        if change[0] == "drop" and len(change) == 1:
            return len(functions) - 1
    raise BadQuestion("no change")


def changed_at(program, change):
    """A pair of what comes by the change, a program, and the number of its function; BadQuestion, then BadProgram."""
    given, functions = program
    f = place_of_change(functions, change)
    come = change[2:]
    return need_program((given, functions[:f] + come + functions[f + 1:])), f


def changed(program, change):
    """The changed program; BadProgram, then BadQuestion, then BadProgram of what comes."""
    return changed_at(need_program(program), change)[0]


def entries_called(functions, body):
    """A list of the (F, "entry") of the functions that are called in the body."""
    return [(number_called(functions, node[2][1]), "entry") for node in nodes_in(body)[0] if is_call(node)]


def have_common(things, others):
    """Whether one of the things is among the others."""
    return any(thing in others for thing in things)


class Coming:
    """A program that comes where another one went: just in the function F they are unlike, or one of them has none."""

    def __init__(self, went, comes, f):
        self.went = went
        self.comes = comes
        self.f = f
        self.spots = all_spots(comes[1])
        self.pool = pool_in(comes)

    def touched_first(self):
        """A list of the THINGS that are touched by the other function itself, perhaps of some that are no more."""
        before, now = self.went[1][self.f:self.f + 1], self.comes[1][self.f:self.f + 1]
        things = []
        for function in now:
            things.append((self.f, "end"))
            if not before or before[0][1] != function[1]:
                things.append((self.f, "entry"))
            things.extend(entries_called(self.comes[1], function[3]))
        for function in before:
            things.extend(entries_called(self.went[1], function[3]))
        return things

    def touched(self):
        """A rising tuple of the THINGS that are touched."""
        things = things_in(self.comes[1])
        if pool_in(self.went) != self.pool:
            return things
        first = self.touched_first()
        hangs = hangs_by(self.spots)
        return tuple([thing for thing in things if thing in first or have_common(all_hung_on(hangs, thing), first)])

    def standing_by(self, judged, touched):
        """What stands, where that stood in what went, and these THINGS are touched."""
        begun = []
        for f, (entry, end) in enumerate(candidates_by(self.comes, self.pool)):
            if (f, "entry") not in touched:
                entry = judged[f][0]
            if (f, "end") not in touched:
                end = judged[f][1]
            begun.append((entry, end))
        return go_round(self.spots, tuple(begun))[1]


def touched_by(program, change):
    """A rising tuple of the THINGS that the change touches; BadProgram, then BadQuestion, then BadProgram."""
    comes, f = changed_at(need_program(program), change)
    return Coming(program, comes, f).touched()


def standing_anew(program, judged, change):
    """What stands in the changed program; BadProgram, then BadJudged, then BadQuestion, then BadProgram."""
    need_judged_of(need_program(program), judged)
    comes, f = changed_at(program, change)
    coming = Coming(program, comes, f)
    return coming.standing_by(judged, coming.touched())
