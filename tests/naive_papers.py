"""A reader of papers, just as the document's words go, without any care for time; and what is shown by hand."""

from tests.naive import (
    all_nodes, call_places, facts, let_kind, needs, node_with_way, number_of, place, put, struck, struck_anywhere, term, without)
from tests.naive_tries import may_be_open


def scope(program, f, n):
    params = program[1][f][1]
    _, way = node_with_way(program, f, n)
    lets = [(node[1], let_kind(program, node[2])) for node, _ in way if node[0] == "let"]
    return tuple(sorted(term(name, kind) for name, kind in list(params) + lets))


def is_number(thing):
    return type(thing) is int


def are_numbers(thing, terms):
    return type(thing) is tuple and len(thing) == len(terms) and all(
        type(pair) is tuple and len(pair) == 2 and type(pair[0]) is str and pair[0] == term and is_number(pair[1])
        for pair, term in zip(thing, terms))


def so(saying, numbers):
    worths = dict(numbers)
    worths[""] = 0
    return worths[saying[0]] <= worths[saying[1]] + saying[2]


def all_so(sayings, numbers):
    return all(so(saying, numbers) for saying in sayings)


def put_at(program, g, n, f, side, saying):
    """What the saying of that side of F needs at the node, None where the node is no call, or give, of F."""
    node = node_with_way(program, g, n)[0]
    if side == "end":
        if node[0] != "give" or g != f:
            return None
        return put((saying,), {term("out", program[1][f][2]): place(node[1])})
    if node[0] != "let" or node[2][0] != "call" or number_of(program[1], node[2][1]) != f:
        return None
    return put((saying,), call_places(program, node))


def strike_can_be(program, judged, strike):
    if type(strike) is not tuple or len(strike) != 6:
        return False
    f, side, saying, g, n, numbers = strike
    many = range(len(program[1]))
    if not is_number(f) or f not in many or type(side) is not str or side not in ("entry", "end") or (f, side) == (0, "entry"):
        return False
    if type(saying) is not tuple or len(saying) != 3 or not is_number(saying[2]) or type(saying[0]) is not str:
        return False
    if type(saying[1]) is not str or saying not in judged[f][("entry", "end").index(side)]:
        return False
    if not is_number(g) or not is_number(n) or (g, n) not in all_nodes(program):
        return False
    needed = put_at(program, g, n, f, side, saying)
    if needed is None or not are_numbers(numbers, scope(program, g, n)):
        return False
    return all_so(facts(program, judged, g, n), numbers) and not all_so(needed, numbers)


def is_linked(chain):
    return all(one[0] != one[1] for one in chain) and all(one[1] == other[0] for one, other in zip(chain, chain[1:]))


def shows(program, judged, f, n, need, thing):
    if type(thing) is not tuple or len(thing) != 2 or type(thing[0]) is not str:
        return False
    told = facts(program, judged, f, n)
    if thing[0] == "open":
        return may_be_open(node_with_way(program, f, n)[0]) and are_numbers(thing[1], scope(program, f, n)) and (
            all_so(told, thing[1]) and not so(need, thing[1]))
    places = thing[1]
    if type(places) is not tuple or not 1 <= len(places) <= 40 or not all(
            is_number(at) and 0 <= at < len(told) for at in places):
        return False
    chain = [told[at] for at in places]
    comes = sum(most for _, _, most in chain)
    if thing[0] == "chain":
        return need[0] != need[1] and is_linked(chain) and chain[0][0] == need[0] and chain[-1][1] == need[1] and comes <= need[2]
    if thing[0] == "ring":
        return len(chain) == 1 and chain[0][0] == chain[0][1] or is_linked(chain) and chain[0][0] == chain[-1][1] and comes < 0
    return False


def place_at_fault(program, begun, paper):
    """The place of the paper's fault, or what a good one shows, begun being the candidates."""
    if type(paper) is not tuple or len(paper) != 2 or any(type(part) is not tuple for part in paper):
        return ("form",)
    judged = begun
    for k, strike in enumerate(paper[0]):
        if not strike_can_be(program, judged, strike):
            return ("strike", k)
        judged = without(judged, (strike[:3],))
    wanted = [[needs(program, judged, f, node_with_way(program, f, n)[0]) for g, n in all_nodes(program) if g == f]
              for f in range(len(program[1]))]
    if not has_form(paper[1], wanted):
        return ("shown",)
    opens = []
    for f, n in all_nodes(program):
        for k, need in enumerate(wanted[f][n]):
            if not shows(program, judged, f, n, need, paper[1][f][n][k]):
                return ("shown", f, n, k)
            if paper[1][f][n][k][0] == "open":
                opens.append((f, n))
    return judged, tuple(sorted(set(opens)))


def has_form(shown, wanted):
    return len(shown) == len(wanted) and all(
        type(of_function) is tuple and len(of_function) == len(nodes) and all(
            type(of_node) is tuple and len(of_node) == len(needed) for of_node, needed in zip(of_function, nodes))
        for of_function, nodes in zip(shown, wanted))


def strikes_in_turn(program, judged, chance, numbers_against):
    """Strikes one by one in an order by chance, and what is left: a paper's by hand."""
    strikes = []
    while True:
        gone = struck_anywhere(program, judged)
        if not gone:
            return tuple(strikes), judged
        f, side, saying = chance.choice(gone)
        g, n = chance.choice([(g, n) for g, n in all_nodes(program) if (f, side, saying) in struck(program, judged, g, n)])
        needed = put_at(program, g, n, f, side, saying)[0]
        at = needs(program, judged, g, node_with_way(program, g, n)[0]).index(needed)
        strikes.append((f, side, saying, g, n, numbers_against(program, judged, g, n, at)))
        judged = without(judged, (strikes[-1][:3],))
