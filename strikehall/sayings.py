"""Terms, sayings, facts, and what follows from them."""

from strikehall.chains import (
    facts_from_each, least_facts, leasts_from, numbers_that_fit, places_from_each, ring_in, shortest_chain)
from strikehall.errors import BadSaying
from strikehall.programs import is_name


def is_term(thing):
    """Whether it is a TERM, of anything."""
    if type(thing) is not str:
        return False
    if thing in ("", "out", "#out"):
        return True
    return is_name(thing[1:] if thing[0] == "#" else thing)


def is_triple(thing):
    """Whether it is two TERMs and a number, of anything."""
    if type(thing) is not tuple or len(thing) != 3:
        return False
    one, other, most = thing
    return type(most) is int and is_term(one) and is_term(other)


def is_saying(thing):
    """Whether it is a SAYING, of anything."""
    return is_triple(thing) and thing[0] != thing[1]


def is_fact(thing):
    """Whether it is a saying, or ("", "", C), C below 0, of anything."""
    if not is_triple(thing):
        return False
    one, other, most = thing
    return one != other or one == "" and most < 0


def need_facts(thing):
    """The facts themselves; BadSaying."""
    if type(thing) is not tuple or not all(is_fact(fact) for fact in thing):
        raise BadSaying("no facts")
    return thing


def need_fact(thing):
    """The saying, or ("", "", C), itself; BadSaying."""
    if not is_fact(thing):
        raise BadSaying("no saying")
    return thing


def fits(facts):
    """Whether there are numbers for which all facts are so; BadSaying."""
    return numbers_that_fit(least_facts(need_facts(facts))) is not None


def least_that_follows(facts, one, other):
    """The least C for which (one, other, C) follows from facts that fit, None where there is none."""
    return leasts_from(facts_from_each(least_facts(facts)), one).get(other)


def least_between(facts, one, other):
    """The least C for which (one, other, C) follows, None where there is none, or nothing fits; BadSaying."""
    fitting = fits(facts)
    if not is_term(one) or not is_term(other) or one == other:
        raise BadSaying("no unlike terms")
    return least_that_follows(facts, one, other) if fitting else None


def follows(facts, saying):
    """Whether the saying, or ("", "", C), is so for all numbers for which the facts are; BadSaying."""
    fitting = fits(facts)
    one, other, most = need_fact(saying)
    if not fitting:
        return True
    if one == other:
        return False
    least = least_that_follows(facts, one, other)
    return least is not None and least <= most


def numbers_for(facts):
    """A dict from all TERMs in the facts but "", rising, to numbers that fit, None where nothing fits; BadSaying."""
    numbers = numbers_that_fit(least_facts(need_facts(facts)))
    if numbers is None:
        return None
    # Facts tell of differences alone: where all numbers are moved alike, they fit as well.
    nought = numbers.get("", 0)
    return {term: numbers[term] - nought for term in sorted(numbers) if term != ""}


def chain_for(facts, saying):
    """A list of places of a chain for the saying, as short as any, None where none is, or nothing fits; BadSaying."""
    fitting = fits(facts)
    one, other, most = need_fact(saying)
    if not fitting or one == other:
        return None
    return shortest_chain(places_from_each(facts), one, other, most, len(facts))


def ring_for(facts):
    """A list of places of a ring by which nothing fits, as short as any, None where the facts fit; BadSaying."""
    return None if fits(facts) else ring_in(facts)
