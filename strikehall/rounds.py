"""Striking, round by round.

Of a thing, (F, SIDE), what stands is kept by pairs (A, B) of TERMs: a dict from these to lists of the Cs, rising. Of
all facts of one pair the one of the least C tells as much as all, and where one saying of a pair is shown, so are
those of greater Cs.
"""

from strikehall.bodies import kind_of_right, nodes_in
from strikehall.bounds import Bounds
from strikehall.chains import least_facts
from strikehall.facts import called_at, facts_of_params, is_call, own_facts, places_of_give


class Spot:
    """A call or a give, node N of F: what is known on the way to it, whatever is judged, and what has to be looked up.

    Known are the least facts; calls are the (F, PLACES) of the functions that are called on the way; thing is that of
    which sayings may be struck here, with places put.
    """

    def __init__(self, f, n, known, calls, thing, places):
        self.f = f
        self.n = n
        self.known = known
        self.calls = calls
        self.thing = thing
        self.places = places

    def put_for(self, term):
        """The place that is put for a TERM of the thing."""
        return self.places.get(term, (term, 0))

    def looks_up(self, things):
        """Whether one of these things tells facts here."""
        return (self.f, "entry") in things or any((called, "end") in things for called, _ in self.calls)


def spot_at(functions, f, n, node, facts, calls):
    """The Spot of a node, None of one at which nothing is struck."""
    if node[0] == "give":
        return Spot(f, n, least_facts(facts), calls, (f, "end"), places_of_give(node))
    if is_call(node):
        called, places = called_at(functions, node)
        return Spot(f, n, least_facts(facts), calls, (called, "entry"), places)
    return None


def behind(functions, node, which, facts, calls):
    """The facts and the calls behind the node, into its body of that number, from those ahead of it."""
    kind = kind_of_right(node[2], functions) if node[0] == "let" else None
    own = facts + own_facts(node, which, kind)
    return own, calls + [called_at(functions, node)] if is_call(node) else calls


def spots_of(functions, f):
    """A list by the numbers of the function's nodes: the Spot, None of a node at which nothing is struck."""
    nodes, ahead = nodes_in(functions[f][3])
    ways = []
    spots = []
    for node, comes in zip(nodes, ahead):
        if comes is None:
            facts, calls = facts_of_params(functions[f][1]), []
        else:
            number, which = comes
            facts, calls = ways[number]
            facts, calls = behind(functions, nodes[number], which, facts, calls)
        ways.append((facts, calls))
        spots.append(spot_at(functions, f, len(spots), node, facts, calls))
    return spots


def all_spots(functions):
    """A list of the Spots of all functions."""
    return [spot for f in range(len(functions)) for spot in spots_of(functions, f) if spot is not None]


def numbers_by_pairs(sayings):
    """A dict from the pairs of rising sayings to their Cs, rising."""
    pairs = {}
    for one, other, most in sayings:
        pairs.setdefault((one, other), []).append(most)
    return pairs


def left_things(judged):
    """A dict from the things to what stands of them."""
    left = {}
    for f, (entry, end) in enumerate(judged):
        left[f, "entry"] = numbers_by_pairs(entry)
        left[f, "end"] = numbers_by_pairs(end)
    return left


def sayings_in(pairs):
    """A tuple of the sayings of a thing, rising."""
    return tuple([(one, other, most) for (one, other), numbers in pairs.items() for most in numbers])


def judged_of(left):
    """The JUDGED of what stands."""
    return tuple([(sayings_in(left[f, "entry"]), sayings_in(left[f, "end"])) for f in range(len(left) // 2)])


def add_leasts(leasts, pairs, places):
    """Add to the least facts those of a thing with places put."""
    for (one, other), numbers in pairs.items():
        one, more = places.get(one, (one, 0))
        other, less = places.get(other, (other, 0))
        number = numbers[0] + less - more
        if one == other:
            if number >= 0:
                continue
            one = other = ""
        if (one, other) not in leasts or number < leasts[one, other]:
            leasts[one, other] = number


def leasts_at(spot, left):
    """The least facts at the Spot."""
    leasts = {pair: spot.known[pair] for pair in spot.known}
    add_leasts(leasts, left[spot.f, "entry"], {})
    for called, places in spot.calls:
        add_leasts(leasts, left[called, "end"], places)
    return leasts


def least_shown(one, other, bounds):
    """The least C for which it is shown that one place is no more than the other and C, None where there is none."""
    if one[0] == other[0]:
        return one[1] - other[1]
    least = bounds.least(one[0], other[0])
    return None if least is None else least + one[1] - other[1]


def struck_pairs(spot, left, leasts):
    """A list of (A, B, Cs), the Cs rising: what is struck at the Spot of its thing, where these are the least facts."""
    bounds = Bounds(leasts)
    if not bounds.fitting:
        return []
    struck = []
    for (one, other), numbers in left[spot.thing].items():
        least = least_shown(spot.put_for(one), spot.put_for(other), bounds)
        gone = [most for most in numbers if least is None or most < least]
        if gone:
            struck.append((one, other, gone))
    return struck


def struck_at_spot(spot, left):
    """A list of the sayings of the Spot's thing that are struck there."""
    if not left[spot.thing]:
        return []
    return [(one, other, most) for one, other, gone in struck_pairs(spot, left, leasts_at(spot, left)) for most in gone]


def struck_in_all(spots, left):
    """A rising list of (F, SIDE, SAYING), each once: all that is struck at one of the Spots."""
    struck = {}
    for spot in spots:
        f, side = spot.thing
        for saying in struck_at_spot(spot, left):
            struck[f, side, saying] = True
    return sorted(struck)


def strike_out(left, struck):
    """Take what is struck from what stands."""
    for f, side, (one, other, most) in struck:
        numbers = left[f, side][one, other]
        numbers.remove(most)
        if not numbers:
            left[f, side].pop((one, other))


def waiting_for(spots, struck):
    """A list of those Spots at which facts are others, now that this is struck."""
    # Where the facts are the same, all that isn't shown by them is gone.
    things = {(f, side): True for f, side, _ in struck}
    return [spot for spot in spots if spot.looks_up(things)]


def go_round(spots, judged):
    """A pair of the rounds, a list of rising tuples, and the JUDGED that is left, where these are all Spots."""
    left = left_things(judged)
    waiting = list(spots)
    rounds = []
    while True:
        struck = struck_in_all(waiting, left)
        if not struck:
            return rounds, judged_of(left)
        rounds.append(tuple(struck))
        strike_out(left, struck)
        waiting = waiting_for(spots, struck)
