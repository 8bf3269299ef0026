"""The checker of papers. It looks for nothing itself: it only reads a paper, and adds up."""

from strikehall.errors import BadPaper
from strikehall.facts import all_views, is_so, may_fault, needs_at_node, sayings_of
from strikehall.programs import is_number_below, need_program
from strikehall.rounds import judged_of, leasts_at, left_things, spots_of, strike_out
from strikehall.scopes import all_scopes, all_so, are_numbers, worths_of
from strikehall.ways import candidates_in

MOST_PLACES = 40


class Striker:
    """What stands behind the strikes of a paper that were done so far."""

    def __init__(self, program, scopes):
        functions = program[1]
        self.scopes = scopes
        self.spots = [spots_of(functions, f) for f in range(len(functions))]
        self.left = left_things(candidates_in(program))
        # The (G, N, NUMBERS) that fitted once. They fit from then on, as ever less stands.
        self.fitted = {}

    def stands(self, f, side, saying):
        """Whether that saying stands yet at that SIDE of the function, not in the first one's ENTRY; of anything."""
        if not is_number_below(f, len(self.spots)) or type(side) is not str or (f, side) == (0, "entry"):
            return False
        if type(saying) is not tuple or len(saying) != 3 or (f, side) not in self.left:
            return False
        one, other, most = saying
        if type(one) is not str or type(other) is not str or type(most) is not int:
            return False
        return most in self.left[f, side].get((one, other), ())

    def spot_for(self, f, side, g, n):
        """The Spot of the node of that number, None where it strikes nothing of that SIDE of the function F."""
        if not is_number_below(g, len(self.spots)) or not is_number_below(n, len(self.spots[g])):
            return None
        spot = self.spots[g][n]
        return spot if spot is not None and spot.thing == (f, side) else None

    def fit(self, spot, numbers):
        """Whether the NUMBERS fit at the Spot, by what stands."""
        key = (spot.f, spot.n, numbers)
        if key not in self.fitted:
            facts = [(one, other, most) for (one, other), most in leasts_at(spot, self.left).items()]
            if not all_so(facts, worths_of(numbers)):
                return False
            self.fitted[key] = True
        return True

    def can_be(self, thing):
        """Whether it is a strike that can be done now, of anything."""
        if type(thing) is not tuple or len(thing) != 6:
            return False
        f, side, saying, g, n, numbers = thing
        spot = self.spot_for(f, side, g, n) if self.stands(f, side, saying) else None
        if spot is None or not are_numbers(numbers, self.scopes[g][n]) or not self.fit(spot, numbers):
            return False
        one, other, most = saying
        put = sayings_of(spot.put_for(one), spot.put_for(other), most)
        return not all_so(put, worths_of(numbers))


def judged_behind(program, scopes, strikes):
    """What stands behind all strikes; BadPaper."""
    striker = Striker(program, scopes)
    for k, strike in enumerate(strikes):
        if not striker.can_be(strike):
            raise BadPaper(("strike", k))
        strike_out(striker.left, [strike[:3]])
    return judged_of(striker.left)


def are_places(thing, facts):
    """Whether it is PLACES in the facts, of anything."""
    if type(thing) is not tuple or not 1 <= len(thing) <= MOST_PLACES:
        return False
    return all(is_number_below(place, len(facts)) for place in thing)


def chain_at(facts, places):
    """What these facts say as a chain, (A, B, C); None where they are none."""
    start, end, comes = facts[places[0]][0], facts[places[0]][0], 0
    for place in places:
        one, other, most = facts[place]
        if one == other or one != end:
            return None
        end = other
        comes = comes + most
    return start, end, comes


def is_chain_for(need, facts, places):
    """Whether the places are of a chain for the need."""
    chain = chain_at(facts, places)
    return need[0] != need[1] and chain is not None and chain[:2] == need[:2] and chain[2] <= need[2]


def is_ring(facts, places):
    """Whether by the facts at the places no numbers fit."""
    first = facts[places[0]]
    if len(places) == 1 and first[0] == first[1]:
        return True
    chain = chain_at(facts, places)
    return chain is not None and chain[0] == chain[1] and chain[2] < 0


def shows(thing, need, view, scope):
    """Whether it shows the need at the node, or of a node that may fault that it is open; of anything."""
    if type(thing) is not tuple or len(thing) != 2 or type(thing[0]) is not str:
        return False
    word, told = thing
    if word == "open":
        if not may_fault(view.body) or not are_numbers(told, scope):
            return False
        worths = worths_of(told)
        return all_so(view.facts, worths) and not is_so(need, worths)
    if word not in ("chain", "ring") or not are_places(told, view.facts):
        return False
    return is_chain_for(need, view.facts, told) if word == "chain" else is_ring(view.facts, told)


def have_form(shown, needs):
    """Whether the tuple has a tuple for each function and node, so many things in it as there are needs."""
    if len(shown) != len(needs):
        return False
    for of_function, wanted in zip(shown, needs):
        if type(of_function) is not tuple or len(of_function) != len(wanted):
            return False
        for of_node, needed in zip(of_function, wanted):
            if type(of_node) is not tuple or len(of_node) != len(needed):
                return False
    return True


def open_by(shown, needs, views, scopes):
    """A rising list of all (F, N) that are told as open; BadPaper."""
    found = {}
    for f, of_function in enumerate(shown):
        for n, of_node in enumerate(of_function):
            for k, thing in enumerate(of_node):
                if not shows(thing, needs[f][n][k], views[f][n], scopes[f][n]):
                    raise BadPaper(("shown", f, n, k))
                if thing[0] == "open":
                    found[f, n] = True
    return list(found)


def check_paper(program, paper):
    """A pair of STANDING and the rising tuple of all (F, N) with an open one; BadProgram, then BadPaper."""
    functions = need_program(program)[1]
    if type(paper) is not tuple or len(paper) != 2 or type(paper[0]) is not tuple or type(paper[1]) is not tuple:
        raise BadPaper(("form",))
    strikes, shown = paper
    scopes = all_scopes(functions)
    judged = judged_behind(program, scopes, strikes)
    views = all_views(functions, judged)
    needs = [[needs_at_node(functions, judged, f, view.body) for view in of_function]
             for f, of_function in enumerate(views)]
    if not have_form(shown, needs):
        raise BadPaper(("shown",))
    return judged, tuple(open_by(shown, needs, views, scopes))
