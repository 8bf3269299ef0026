"""Chains of facts, facts being given by a dict from (A, B) to the least C of those sayings.

What is so for no numbers, ("", "", C), stands in it by the pair ("", ""). A chain leads from A to B, and comes to what
its Cs come to.
"""


def least_facts(facts):
    """The dict of these facts."""
    leasts = {}
    for one, other, most in facts:
        pair = (one, other)
        if pair not in leasts or most < leasts[pair]:
            leasts[pair] = most
    return leasts


def numbers_that_fit(leasts):
    """A dict from all TERMs in the facts, "" too, to numbers for which all are so, None where nothing fits."""
    if ("", "") in leasts:
        return None
    numbers = {term: 0 for pair in leasts for term in pair}
    # Each is lowered to what a chain from it asks for. Chains that fit go over each TERM at most once.
    for _ in range(len(numbers) + 1):
        lowered = False
        for (one, other), most in leasts.items():
            if numbers[one] > numbers[other] + most:
                numbers[one] = numbers[other] + most
                lowered = True
        if not lowered:
            return numbers
    return None


def facts_from_each(leasts):
    """A dict from TERMs to lists of (B, C) of the facts that lead away from them."""
    away = {}
    for (one, other), most in leasts.items():
        away.setdefault(one, []).append((other, most))
    return away


def leasts_from(away, start):
    """A dict from the TERMs to which chains lead from that one, to the least they come to; of facts that fit."""
    leasts = {start: 0}
    changed = [start]
    while changed:
        lowered = {}
        for term in changed:
            for other, most in away.get(term, ()):
                comes = leasts[term] + most
                if other not in leasts or comes < leasts[other]:
                    leasts[other] = comes
                    lowered[other] = True
        changed = list(lowered)
    return leasts


def add_firsts(firsts, facts, ahead):
    """Add facts, ahead of which there are so many, to a dict from (A, B) to (C, PLACE) of the first of the least C."""
    for place, (one, other, most) in enumerate(facts, start=ahead):
        if (one, other) not in firsts or most < firsts[one, other][0]:
            firsts[one, other] = (most, place)


def away_by_firsts(firsts):
    """A dict from TERMs to lists of (B, C, PLACE) of the facts that lead away from them."""
    away = {}
    for (one, other), (most, place) in firsts.items():
        away.setdefault(one, []).append((other, most, place))
    return away


def places_from_each(facts):
    """Such a dict of these facts: of all from A to B the first one of the least C."""
    firsts = {}
    add_firsts(firsts, facts, 0)
    return away_by_firsts(firsts)


def one_fact_more(away, ahead, bests):
    """A dict from the TERMs at which longer chains come to less than bests, to (SUM, TERM ahead, PLACE) of the least.

    ahead is such a dict of the chains that are one fact shorter.
    """
    lowered = {}
    for term, last in ahead.items():
        for other, most, place in away.get(term, ()):
            comes = last[0] + most
            if other in bests and comes >= bests[other]:
                continue
            if other not in lowered or comes < lowered[other][0]:
                lowered[other] = (comes, term, place)
    return lowered


def places_back(turns, term):
    """The places of the chain to the term that was lowered last of all, from its first fact."""
    places = []
    for lowered in turns[:0:-1]:
        _, term, place = lowered[term]
        places.append(place)
    return places[::-1]


def add_turn(away, turns, bests):
    """Add to the turns what chains come to that are one fact longer, and to bests what is less by that."""
    lowered = one_fact_more(away, turns[-1], bests)
    turns.append(lowered)
    for term in lowered:
        bests[term] = lowered[term][0]


def shortest_chain(away, one, other, most, longest):
    """The places of a chain from one to other that comes to most or less, as short as any; None where none does.

    None, too, where none of so many facts does. From a TERM to itself it has to come to less than 0.
    """
    bests = {one: 0}
    turns = [{one: (0, None, None)}]
    while turns[-1] and len(turns) <= longest:
        add_turn(away, turns, bests)
        if other in turns[-1] and turns[-1][other][0] <= most:
            return places_back(turns, other)
    return None


def all_turns(away, one):
    """What chains from that TERM come to, a turn for each fact more, till none comes to less; of facts that fit."""
    bests = {one: 0}
    turns = [{one: (0, None, None)}]
    while turns[-1]:
        add_turn(away, turns, bests)
    return turns


def chain_in_turns(turns, other, most):
    """The places of a chain to another TERM that comes to most or less, as short as any; None where none does."""
    for many, lowered in enumerate(turns):
        if other in lowered and lowered[other][0] <= most:
            return places_back(turns[:many + 1], other)
    return None


def shortest_ring(away):
    """The places of a ring that comes below 0, as short as any, None where there is none."""
    found = None
    longest = len(away)
    for term in list(away):
        places = shortest_chain(away, term, term, -1, longest)
        if places is not None:
            found = places
            longest = len(places) - 1
        # No shorter one goes over this TERM.
        away = {one: [fact for fact in facts if fact[0] != term] for one, facts in away.items() if one != term}
    return found


def ring_in(facts):
    """The places of a ring of facts that don't fit, as short as any."""
    for place, (one, other, _) in enumerate(facts):
        if one == other:
            return [place]
    return shortest_ring(places_from_each(facts))
