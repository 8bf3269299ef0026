"""What is shown, and by what stands: open and dead nodes, programs that are let by."""

from strikehall.bounds import Bounds
from strikehall.chains import least_facts, numbers_that_fit
from strikehall.facts import all_views, facts_on_way, may_fault, needs_at_node, own_needs
from strikehall.programs import need_program
from strikehall.strikes import standing_in
from strikehall.ways import need_judged, need_node


def unshown(leasts, needs):
    """A list of the needs that aren't shown by these least facts."""
    bounds = Bounds(leasts)
    return [need for need in needs if not bounds.shows(need)]


def unshown_at(program, judged, f, n):
    """A tuple of the needs at the node that aren't shown; BadProgram, then BadJudged, then BadQuestion."""
    need_judged(program, judged)
    needs = needs_at_node(program[1], judged, f, need_node(program, f, n))
    return tuple(unshown(least_facts(facts_on_way(program[1], judged, f, n)), needs))


def is_open(view):
    """Whether the node of that View is open, by what stands."""
    needs = own_needs(view.body) if may_fault(view.body) else []
    return len(needs) > 0 and len(unshown(view.leasts(), needs)) > 0


def dead_numbers(views):
    """A list of the numbers of the dead nodes among those of a function, by what stands."""
    dead = {}
    for n, view in enumerate(views):
        # Each fact ahead of a node is a fact at that node, too.
        if view.comes_from in dead or numbers_that_fit(view.leasts()) is None:
            dead[n] = True
    return list(dead)


def open_in(program, judged):
    """A rising list of (F, N) of the open nodes of what surely is a program, by what stands."""
    views = all_views(program[1], judged)
    return [(f, n) for f, of_function in enumerate(views) for n, view in enumerate(of_function) if is_open(view)]


def dead_in(program, judged):
    """A rising list of (F, N) of the dead nodes of what surely is a program, by what stands."""
    views = all_views(program[1], judged)
    return [(f, n) for f, of_function in enumerate(views) for n in dead_numbers(of_function)]


def open_nodes(program):
    """A rising list of (F, N) of the open nodes; BadProgram."""
    need_program(program)
    return open_in(program, standing_in(program))


def dead_nodes(program):
    """A rising list of (F, N) of the dead nodes; BadProgram."""
    need_program(program)
    return dead_in(program, standing_in(program))


def is_let_by(program):
    """Whether no node is open; BadProgram."""
    return not open_nodes(program)
