"""Papers: which strikes leave what stands, and what shows each need by that."""

from strikehall.chains import all_turns, away_by_firsts, chain_in_turns, least_facts, numbers_that_fit, ring_in
from strikehall.errors import BadQuestion
from strikehall.facts import facts_on_way, needs_at_node, sayings_of, views_of
from strikehall.programs import is_number_below, need_program
from strikehall.rounds import all_spots, judged_of, leasts_at, left_things, strike_out, struck_pairs, waiting_for
from strikehall.scopes import all_scopes, all_so, are_numbers, numbers_breaking, scopes_of, worths_of
from strikehall.ways import candidates_in, need_judged, need_node


def scope_at(program, f, n):
    """The SCOPE at the node, a rising tuple; BadProgram, then BadQuestion."""
    need_node(need_program(program), f, n)
    return scopes_of(program[1], f)[n]


def fits_at(program, judged, f, n, numbers):
    """Whether the NUMBERS fit at the node; BadProgram, then BadJudged, then BadQuestion."""
    need_judged(program, judged)
    need_node(program, f, n)
    if not are_numbers(numbers, scopes_of(program[1], f)[n]):
        raise BadQuestion("no numbers at this node")
    return all_so(facts_on_way(program[1], judged, f, n), worths_of(numbers))


def numbers_against(program, judged, f, n, k):
    """NUMBERS that fit at the node, its need k not so for them, None where that is shown; refusals as of fits_at."""
    need_judged(program, judged)
    needs = needs_at_node(program[1], judged, f, need_node(program, f, n))
    if not is_number_below(k, len(needs)):
        raise BadQuestion("no need's number")
    leasts = least_facts(facts_on_way(program[1], judged, f, n))
    return numbers_breaking(leasts, needs[k], scopes_of(program[1], f)[n])


def strikes_at(spot, left, scope):
    """A list of the strikes of all that is struck at the Spot, to be done one behind the other."""
    if not left[spot.thing]:
        return []
    f, side = spot.thing
    leasts = leasts_at(spot, left)
    strikes = []
    for one, other, gone in struck_pairs(spot, left, leasts):
        # What isn't so by the greatest C isn't so by lesser ones. And what fits now fits when less stands, too.
        need = sayings_of(spot.put_for(one), spot.put_for(other), gone[-1])[0]
        numbers = numbers_breaking(leasts, need, scope)
        strikes.extend([(f, side, (one, other, most), spot.f, spot.n, numbers) for most in gone])
    return strikes


def strikes_of(program, scopes):
    """A pair of all strikes from the CANDIDATES on, and STANDING."""
    left = left_things(candidates_in(program))
    spots = all_spots(program[1])
    strikes = []
    waiting = spots
    while waiting:
        gone = []
        for spot in waiting:
            found = strikes_at(spot, left, scopes[spot.f][spot.n])
            strikes.extend(found)
            struck = [strike[:3] for strike in found]
            strike_out(left, struck)
            gone.extend(struck)
        waiting = waiting_for(spots, gone)
    return tuple(strikes), judged_of(left)


def ring_at(view, leasts, rings):
    """A tuple of the places of a ring at the node, None where the facts fit; rings are such of the nodes ahead."""
    if view.comes_from is not None and rings[view.comes_from] is not None:
        # The facts there begin with those of the node ahead.
        return rings[view.comes_from]
    return tuple(ring_in(view.facts)) if numbers_that_fit(leasts) is None else None


def things_at(view, leasts, needs, scope):
    """A tuple of what shows the needs at a node at which the facts fit, or that they aren't so."""
    away = away_by_firsts(view.firsts)
    turns = {}
    told = []
    for need in needs:
        one, other, most = need
        if one not in turns:
            turns[one] = all_turns(away, one)
        places = None if one == other else chain_in_turns(turns[one], other, most)
        if places is None:
            told.append(("open", numbers_breaking(leasts, need, scope)))
        else:
            told.append(("chain", tuple(places)))
    return tuple(told)


def shown_in(functions, judged, f, scopes):
    """What SHOWN has for the function, a tuple by its nodes."""
    rings = []
    shown = []
    for view, scope in zip(views_of(functions, judged, f), scopes):
        leasts = view.leasts()
        ring = ring_at(view, leasts, rings)
        rings.append(ring)
        needs = needs_at_node(functions, judged, f, view.body)
        shown.append(things_at(view, leasts, needs, scope) if ring is None else (("ring", ring),) * len(needs))
    return tuple(shown)


def paper_of(program):
    """A PAPER of the program; BadProgram."""
    functions = need_program(program)[1]
    scopes = all_scopes(functions)
    strikes, judged = strikes_of(program, scopes)
    return strikes, tuple([shown_in(functions, judged, f, scopes[f]) for f in range(len(functions))])
