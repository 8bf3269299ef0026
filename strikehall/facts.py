"""What nodes tell and what they need, in sayings. A place is what is put for a TERM: a pair (TERM, C)."""

from strikehall.bodies import kind_of_right, nodes_in, number_called, term_of, way_to
from strikehall.chains import add_firsts

NOUGHT = ("", 0)


def atom_place(atom):
    """The atom as a place."""
    return ("", atom[1]) if atom[0] == "num" else (atom[1], atom[2])


def row_place(name):
    """How many numbers the row has, as a place."""
    return ("#" + name, 0)


def arg_place(arg):
    """The arg's atom, or row's TERM, as a place."""
    return row_place(arg[1]) if arg[0] == "row" else atom_place(arg)


def sayings_of(one, other, most):
    """A list of the saying that one place is no more than the other and most; empty where it is so of any numbers."""
    number = most + other[1] - one[1]
    if one[0] != other[0]:
        return [(one[0], other[0], number)]
    return [] if number >= 0 else [("", "", number)]


def put_sayings(sayings, places):
    """A list of the sayings with TERMs put, places being a dict from these to places."""
    told = []
    for one, other, most in sayings:
        told.extend(sayings_of(places.get(one, (one, 0)), places.get(other, (other, 0)), most))
    return told


def alike(one, other):
    """The two sayings that one place is the other."""
    return sayings_of(one, other, 0) + sayings_of(other, one, 0)


def is_call(node):
    """Whether the node calls a function."""
    return node[0] == "let" and node[2][0] == "call"


def may_fault(node):
    """Whether it is a node of part, with, cut or must."""
    return node[0] == "must" or node[0] == "let" and node[2][0] in ("part", "with", "cut")


def needs_of_place(right):
    """What is needed of the place of a part or a with, of the number of a cut."""
    word, name, atom = right[:3]
    place = atom_place(atom)
    return sayings_of(NOUGHT, place, 0) + sayings_of(place, row_place(name), 0 if word == "cut" else -1)


def own_needs(node):
    """A list of what is needed at the node, but for a call or a give, whose needs are judged."""
    if node[0] == "must":
        return sayings_of(atom_place(node[1]), atom_place(node[2]), 0)
    return needs_of_place(node[2]) if may_fault(node) else []


def facts_of_sum(named, one, other):
    """What a let of a sum tells of the place that it names, the two atoms being places, too."""
    if other[0] == "":
        return alike(named, (one[0], one[1] + other[1]))
    if one[0] == "":
        return alike(named, (other[0], other[1] + one[1]))
    return []


def facts_of_right(name, right):
    """A list of what a let tells, but for what its call tells."""
    word = right[0]
    if word == "be":
        return alike((name, 0), atom_place(right[1]))
    if word == "sum":
        return facts_of_sum((name, 0), atom_place(right[1]), atom_place(right[2]))
    if word == "long":
        return alike((name, 0), row_place(right[1]))
    if word == "with":
        return alike(row_place(name), row_place(right[1]))
    if word == "cut":
        return alike(row_place(name), atom_place(right[2]))
    return []


def own_facts(node, which, kind):
    """A list of what is so behind the node, but for what its call tells; kind is that of what it lets."""
    if node[0] == "must":
        return own_needs(node)
    if node[0] == "if":
        one, other = atom_place(node[1]), atom_place(node[2])
        return sayings_of(one, other, 0) if which == 0 else sayings_of(other, one, -1)
    long = [("", "#" + node[1], 0)] if kind == "row" else []
    return long + facts_of_right(node[1], node[2]) + own_needs(node)


def places_of_call(node, function):
    """A dict from the TERMs of the END of the function called, but "", to places."""
    _, params, out, _ = function
    _, name, (_, _, args) = node[:3]
    places = {term_of(param, kind): arg_place(arg) for (param, kind), arg in zip(params, args)}
    places[term_of("out", out)] = (term_of(name, out), 0)
    return places


def places_of_give(node):
    """A dict from the TERM of what is given to its place."""
    return {term_of("out", "row" if node[1][0] == "row" else "number"): arg_place(node[1])}


def called_at(functions, node):
    """The (NUMBER, PLACES) of what the node calls."""
    number = number_called(functions, node[2][1])
    return number, places_of_call(node, functions[number])


def is_so(saying, worths):
    """Whether the saying is so, where the TERMs have these numbers."""
    one, other, most = saying
    return worths[one] <= worths[other] + most


def facts_of_params(params):
    """A list of what is so of the rows among the params."""
    return [("", "#" + name, 0) for name, kind in params if kind == "row"]


def facts_behind(functions, judged, node, which):
    """A list of what is so behind the node, into its body of that number, by what is judged."""
    if node[0] != "let":
        return own_facts(node, which, None)
    told = own_facts(node, which, kind_of_right(node[2], functions))
    if is_call(node):
        called, places = called_at(functions, node)
        told.extend(put_sayings(judged[called][1], places))
    return told


def facts_on_way(functions, judged, f, n):
    """A list of the FACTS at the node."""
    _, params, _, body = functions[f]
    nodes, ahead = nodes_in(body)
    told = list(judged[f][0]) + facts_of_params(params)
    for number, which in way_to(ahead, n):
        told.extend(facts_behind(functions, judged, nodes[number], which))
    return told


def needs_at_node(functions, judged, f, node):
    """A list of what is NEEDED at the function's node."""
    if node[0] == "give":
        return put_sayings(judged[f][1], places_of_give(node))
    if is_call(node):
        called, places = called_at(functions, node)
        return put_sayings(judged[called][0], places)
    return own_needs(node)


class View:
    """A node by what is judged: the number of the node just ahead, None of the first one, the FACTS, and their firsts.

    The firsts are as add_firsts has them.
    """

    def __init__(self, body, comes_from, facts, firsts):
        self.body = body
        self.comes_from = comes_from
        self.facts = facts
        self.firsts = firsts

    def leasts(self):
        """The least facts."""
        return {pair: self.firsts[pair][0] for pair in self.firsts}


def first_view(functions, judged, f):
    """The View of the function's first node."""
    _, params, _, body = functions[f]
    facts = list(judged[f][0]) + facts_of_params(params)
    firsts = {}
    add_firsts(firsts, facts, 0)
    return View(body, None, facts, firsts)


def views_of(functions, judged, f):
    """A list of the Views of the function's nodes, by number."""
    nodes, ahead = nodes_in(functions[f][3])
    views = [first_view(functions, judged, f)]
    for number, which in ahead[1:]:
        comes_from = views[number]
        more = facts_behind(functions, judged, comes_from.body, which)
        firsts = {pair: comes_from.firsts[pair] for pair in comes_from.firsts}
        add_firsts(firsts, more, len(comes_from.facts))
        views.append(View(nodes[len(views)], number, comes_from.facts + more, firsts))
    return views


def all_views(functions, judged):
    """A list by functions of lists by nodes of the Views."""
    return [views_of(functions, judged, f) for f in range(len(functions))]
