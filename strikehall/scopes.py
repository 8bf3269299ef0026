"""SCOPES, and NUMBERS for the TERMs in them."""

from strikehall.bodies import kind_of_right, nodes_in, term_of
from strikehall.chains import numbers_that_fit
from strikehall.facts import is_so


def scopes_of(functions, f):
    """A list of the SCOPES at the function's nodes, by number."""
    _, params, _, body = functions[f]
    nodes, ahead = nodes_in(body)
    scopes = [tuple(sorted([term_of(name, kind) for name, kind in params]))]
    for number, _ in ahead[1:]:
        node = nodes[number]
        terms = list(scopes[number])
        if node[0] == "let":
            terms.append(term_of(node[1], kind_of_right(node[2], functions)))
        scopes.append(tuple(sorted(terms)))
    return scopes


def all_scopes(functions):
    """A list by functions of lists by nodes of the SCOPES."""
    return [scopes_of(functions, f) for f in range(len(functions))]


def are_numbers(thing, scope):
    """Whether it is NUMBERS where that is the SCOPE, of anything."""
    if type(thing) is not tuple or len(thing) != len(scope):
        return False
    for pair, term in zip(thing, scope):
        if type(pair) is not tuple or len(pair) != 2:
            return False
        if type(pair[0]) is not str or pair[0] != term or type(pair[1]) is not int:
            return False
    return True


def worths_of(numbers):
    """A dict from the TERMs of NUMBERS, and nought, to their numbers."""
    worths = {"": 0}
    for term, number in numbers:
        worths[term] = number
    return worths


def all_so(facts, worths):
    """Whether all facts are so, where the TERMs have these numbers."""
    return all(is_so(fact, worths) for fact in facts)


def with_need_broken(leasts, need):
    """The least facts, and one more: that the need, of two TERMs, isn't so."""
    one, other, most = need
    against = {pair: leasts[pair] for pair in leasts}
    against[other, one] = min(-1 - most, leasts.get((other, one), -1 - most))
    return against


def numbers_breaking(leasts, need, scope):
    """NUMBERS for which the least facts are so, but the need isn't, None where there are none."""
    numbers = numbers_that_fit(leasts if need[0] == need[1] else with_need_broken(leasts, need))
    if numbers is None:
        return None
    # Where all numbers are moved alike, the same is so of them. Of TERMs in no fact the number is free.
    nought = numbers.get("", 0)
    return tuple([(term, numbers.get(term, nought) - nought) for term in scope])
