"""One look at functions: their form, and whether names, kinds and calls fit, node by node."""

from strikehall.names import is_plain_name

KINDS = ("number", "row")
MOST_NODES = 12
MOST_PARAMS = 3
# Of a let's right side but a call: of how many things it is, and the kind of what it gives.
LONG = {"be": 2, "sum": 3, "long": 2, "part": 3, "with": 4, "cut": 3}
GIVES = {"be": "number", "sum": "number", "long": "number", "part": "number", "with": "row", "cut": "row"}

# How good a thing is. The worst of its parts counts, so what is worse is the greater number.
FITS = 0
MISFITS = 1
FORMLESS = 2


# Types are compared, not asked by isinstance: True is no number here, and what only passes for a tuple, a text
# or a number may be compared and measured in ways of its own.
# All that is asked of a program begins here. So each node is looked at just once, its form together with its names.


def look_at_atoms(things, kinds):
    """How good they are as ATOMs, where the names on the way are of these kinds; of anything."""
    worst = FITS
    for thing in things:
        if type(thing) is not tuple:
            return FORMLESS
        if len(thing) == 3:
            word, name, number = thing
            if type(word) is not str or word != "at" or type(name) is not str:
                return FORMLESS
            if name not in kinds or kinds[name] != "number":
                # Those on the way are names by their form: only of others that is in question.
                if not is_plain_name(name):
                    return FORMLESS
                worst = MISFITS
        elif len(thing) == 2:
            word, number = thing
            if type(word) is not str or word != "num":
                return FORMLESS
        else:
            return FORMLESS
        if type(number) is not int or not -4 <= number <= 4:
            return FORMLESS
    return worst


def look_at_row(thing, kinds):
    """How good it is as the NAME of a row."""
    if type(thing) is str and kinds.get(thing) == "row":
        return FITS
    return MISFITS if is_plain_name(thing) else FORMLESS


def look_at_arg(thing, kind, kinds):
    """How good it is as an ARG of that kind."""
    if type(thing) is tuple and len(thing) == 2 and type(thing[0]) is str and thing[0] == "row":
        told, given = look_at_row(thing[1], kinds), "row"
    else:
        told, given = look_at_atoms((thing,), kinds), "number"
    return told if given == kind or told == FORMLESS else MISFITS


def look_at_call(thing, kinds, heads):
    """How good it is as a RIGHT that calls."""
    if len(thing) != 3 or thing[0] != "call" or type(thing[2]) is not tuple or not is_plain_name(thing[1]):
        return FORMLESS
    _, name, args = thing
    wanted = heads[name][0] if name in heads else None
    worst = FITS
    if wanted is None or len(wanted) != len(args):
        worst = MISFITS
        wanted = (None,) * len(args)
    for arg, kind in zip(args, wanted):
        worst = max(worst, look_at_arg(arg, kind, kinds))
    return worst


def look_at_right(thing, kinds, heads):
    """How good it is as a RIGHT."""
    if type(thing) is not tuple or not thing or type(thing[0]) is not str:
        return FORMLESS
    word = thing[0]
    if word not in LONG:
        return look_at_call(thing, kinds, heads)
    if len(thing) != LONG[word]:
        return FORMLESS
    if word == "sum" or word == "be":
        return look_at_atoms(thing[1:], kinds)
    return max(look_at_row(thing[1], kinds), look_at_atoms(thing[2:], kinds))


def kind_called(right, heads):
    """The kind of what a call gives, None where it calls no function."""
    return heads[right[1]][1] if right[1] in heads else None


def look_at_body(node, params, out, heads):
    """None of a good BODY, else the number of the first node that misfits, -1 of what is none by its form."""
    kinds = dict(params)
    taken = dict(params)
    waiting = []
    misfit = None
    # A body may be very deep, or stand many times in another one: no more nodes than may be are gone through.
    for number in range(MOST_NODES):
        if type(node) is not tuple or not node or type(node[0]) is not str:
            return -1
        word = node[0]
        if word == "let" and len(node) == 4:
            _, name, right, following = node
            told = look_at_right(right, kinds, heads)
            if told == FORMLESS or not is_plain_name(name):
                return -1
            if name in taken:
                told = MISFITS
            given = right[0]
            kinds[name] = taken[name] = GIVES[given] if given in GIVES else kind_called(right, heads)
        elif word == "must" and len(node) == 4 or word == "if" and len(node) == 5:
            told = look_at_atoms(node[1:3], kinds)
            following = node[3]
            if word == "if":
                waiting.append((node[4], dict(kinds)))
        elif word == "give" and len(node) == 2:
            told, following = look_at_arg(node[1], out, kinds), None
        else:
            return -1
        if told == FORMLESS:
            return -1
        if told == MISFITS and misfit is None:
            misfit = number
        if word == "give":
            if not waiting:
                return misfit
            following, kinds = waiting.pop()
        node = following
    return -1


def is_params(thing):
    """Whether it is a tuple of PARAMS by its form, of anything."""
    if type(thing) is not tuple or len(thing) > MOST_PARAMS:
        return False
    for pair in thing:
        if type(pair) is not tuple or len(pair) != 2 or not is_plain_name(pair[0]):
            return False
        if type(pair[1]) is not str or pair[1] not in KINDS:
            return False
    return True


def is_head(thing):
    """Whether it is a FUNCTION by its form but for its body, of anything."""
    if type(thing) is not tuple or len(thing) != 4:
        return False
    name, params, out, _ = thing
    return is_plain_name(name) and is_params(params) and type(out) is str and out in KINDS


def heads_of(functions):
    """Of the functions that may be called, by their names: the kinds of the PARAMS, and OUT."""
    heads = {}
    # Of like names the first one is meant: it is put down last.
    for name, params, out, _ in reversed(functions):
        heads[name] = ([kind for _, kind in params], out)
    if functions:
        heads.pop(functions[0][0])
    return heads


def head_fits(functions, number):
    """Whether the function's name is unlike those ahead, and its PARAMS are unlike one another."""
    name, params = functions[number][:2]
    for ahead in functions[:number]:
        if ahead[0] == name:
            return False
    return len({param for param, _ in params}) == len(params)


def look_at_function(functions, number, heads):
    """None of a good function, its head of good form; 0 where that misfits, N + 1 where its node N, -1 of no BODY."""
    _, params, out, body = functions[number]
    misfit = look_at_body(body, params, out, heads)
    if misfit == -1:
        return -1
    if not head_fits(functions, number):
        return 0
    return None if misfit is None else misfit + 1


def place_at_fault(functions):
    """The number of the first one that is none by its form, else of the first that misfits; None of good ones."""
    good = [is_head(function) for function in functions]
    heads = heads_of([function for function, well in zip(functions, good) if well])
    place = None
    for number, well in enumerate(good):
        misfit = look_at_function(functions, number, heads) if well else -1
        if misfit == -1:
            return number
        if misfit is not None and place is None:
            place = number
    return place
