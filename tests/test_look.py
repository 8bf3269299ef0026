"""How programs are looked at: once, each node once, and nothing is kept."""

import sys
import unittest
from unittest import mock

from strikehall import looking
from strikehall.anew import changed, hangs_on, hangs_straight, standing_anew, things_of, touched_by
from strikehall.checking import check_paper
from strikehall.desk import Desk
from strikehall.errors import BadProgram
from strikehall.faults import came_to, end_text, is_broken
from strikehall.keeper import Keeper
from strikehall.papers import fits_at, numbers_against, paper_of, scope_at
from strikehall.programs import ahead_of, is_program, kinds_of, need_program, nodes_of
from strikehall.runs import calls_of, need_inputs, run, steps_of
from strikehall.shown import dead_nodes, is_let_by, open_nodes, unshown_at
from strikehall.strikes import (
    all_struck, holds_by, left_of, lies_within, rounds_of, standing, struck_at)
from strikehall.texts import program_text, read_program
from strikehall.trying import all_faults, first_break, first_fault, inputs_tried
from strikehall.ways import (
    candidates, end_terms, entry_terms, facts_at, need_judged, needed_at, pool_of)
from tests.samples import (
    ATOM, GIVE, MIXED, MIXED_TEXT, Number, Odd, Text, at, chain, function, let, musts, numbers, program, row, rows)

BODY = """let nm sum x+1 2
let nl sum x+1 2
must 0 x+1
let nj sum x+1 2
let ni sum x+1 2
must 0 x+1
let ng sum x+1 2
let nf sum x+1 2
must 0 x+1
let nd sum x+1 2
let nc sum x+1 2
give x"""
NAMES = ("ma", "mb", "mc", "md")
HEADS = [f"fn {name} number x:number y:row" for name in NAMES]
SUMS = "given 0 x 1\ngiven x 0 4\n" + "\n".join(head + "\n" + BODY for head in HEADS)
OTHERS = """let a call mb x-1 y
let b long y
let c part y 0
let d with y x-4 b+1
let e cut d 2
if a b+1
 let f be c
 if f 0
  give f
 else
  give 4
else
 let g call mc a e
 give g"""
ALL_KINDS = "\n".join(head + "\n" + OTHERS for head in HEADS)


def steps_taken(call):
    """How many lines of Python are gone through, and how many calls of functions: what takes the time, without a clock."""
    taken = {"line": 0, "call": 0}

    def count(frame, event, arg):
        if event in taken:
            taken[event] += 1
        return count
    ahead = sys.gettrace()
    sys.settrace(count)
    try:
        call()
    finally:
        sys.settrace(ahead)
    return taken["line"], taken["call"]


class Short(unittest.TestCase):
    def within(self, call, many_lines, many_calls):
        lines, calls = steps_taken(call)
        self.assertLess(lines, many_lines)
        self.assertLess(calls, many_calls)

    def test_of_sums_and_musts(self):
        made = read_program(SUMS)
        self.within(lambda: need_program(made), 2300, 230)
        self.within(lambda: is_program(made), 2300, 230)

    def test_of_ifs_calls_and_all_lets(self):
        made = read_program(ALL_KINDS)
        self.within(lambda: need_program(made), 2300, 350)

    def test_of_one_function_asked_for(self):
        made = read_program(SUMS)
        for f in range(4):
            self.within(lambda: nodes_of(made, f), 2500, 240)
            self.within(lambda: kinds_of(made, f), 2600, 260)
            for n in range(12):
                self.within(lambda: ahead_of(made, f, n), 2600, 240)

    def test_of_what_is_no_program(self):
        good = read_program(SUMS)
        for k in range(4):
            name, params, out, _ = good[1][k]
            for body in (chain(13), musts(40000), let("x", ("be", ATOM)), ("give", at("z")), ("give", 5)):
                made = (good[0], good[1][:k] + ((name, params, out, body),) + good[1][k + 1:])
                self.assertIs(is_program(made), False)
                self.within(lambda: is_program(made), 2300, 230)


class Formless(unittest.TestCase):
    """What is none by its form is told ahead of names that misfit in a function ahead of it."""

    PARAMS = numbers("n") + rows("r")
    MISFIT = function(("give", at("z")), name="m")

    def refused(self, thing):
        with self.assertRaises(BadProgram) as told:
            need_program(((), (self.MISFIT, thing, self.MISFIT)))
        self.assertEqual(told.exception.place, 1)

    def body_refused(self, body):
        self.refused(function(body, params=self.PARAMS))
        self.refused(function(let("q", ("be", ATOM), body), params=self.PARAMS))
        self.refused(function(("if", ATOM, ATOM, GIVE, body), params=self.PARAMS))

    def bodies(self):
        atoms = [at("n", 1), ("num", 1)]
        nodes = [("give", row("r"))] + [("give", atom) for atom in atoms] + [
            (word, one, other, *[GIVE] * many) for word, many in (("must", 1), ("if", 2)) for one in atoms for other in atoms]
        rights = [("long", "r"), ("call", "m", (at("n"), row("r"))), ("call", "m", ())]
        rights += [(word, *first, *[atom] * many) for atom in atoms for word, first, many in (
            ("be", (), 1), ("sum", (), 2), ("part", ("r",), 1), ("with", ("r",), 2), ("cut", ("r",), 1))]
        return nodes + [let("x", right) for right in rights]

    def parts_of(self, thing, way=()):
        yield way
        if type(thing) is tuple:
            for k, part in enumerate(thing):
                yield from self.parts_of(part, way + (k,))

    def with_part(self, thing, way, part):
        if not way:
            return part
        k = way[0]
        return thing[:k] + (self.with_part(thing[k], way[1:], part),) + thing[k + 1:]

    def test_each_part_of_each_body(self):
        for body in self.bodies():
            for way in self.parts_of(body):
                for part in (None, True, "A", "", "else", 5, (), [], {}, b"a", Odd(), Text("give"), Text("n"), Text("r"),
                             Text("let"), Text("must"), Text("at"), Text("num"), Text("row"), Number(1), ((),)):
                    if not (type(part) is tuple and part == () and way == (2, 2)):
                        self.body_refused(self.with_part(body, way, part))

    def test_heads(self):
        good = function(params=self.PARAMS)
        for name in ("A", "if", "", 0, None, Text("f"), ["f"]):
            self.refused(function(name=name))
        for out in ("text", "", "Number", 0, None, Text("number"), ["row"]):
            self.refused(function(out=out))
        for params in ((("a", "text"),), (("a", "Row"),), (("a",),), ("ab",), [("a", "row")], (("a", "row", 0),), (("A", "row"),),
                       (("a", Text("row")),), ((Text("a"), "row"),), (["a", "row"],), numbers(*"abcd")):
            self.refused(function(params=params))
        for thing in (good[:3], good + (0,), list(good), None, ()):
            self.refused(thing)


class Once(unittest.TestCase):
    def looks(self, call):
        """How many bodies are looked at."""
        with mock.patch.object(looking, "look_at_body", wraps=looking.look_at_body) as look:
            call()
        return look.call_count

    def test_each_function_looks_once(self):
        inputs = (2, (1, 2, 3, 4, 5))
        judged = candidates(MIXED)
        paper = paper_of(MIXED)
        calls = [
            lambda: is_program(MIXED), lambda: need_program(MIXED), lambda: nodes_of(MIXED, 0),
            lambda: ahead_of(MIXED, 0, 8), lambda: kinds_of(MIXED, 1), lambda: program_text(MIXED),
            lambda: pool_of(MIXED), lambda: entry_terms(MIXED, 0), lambda: end_terms(MIXED, 1),
            lambda: candidates(MIXED), lambda: facts_at(MIXED, judged, 0, 8), lambda: needed_at(MIXED, judged, 0, 0),
            lambda: need_judged(MIXED, judged), lambda: struck_at(MIXED, judged, 0, 8),
            lambda: all_struck(MIXED, judged), lambda: holds_by(MIXED, judged), lambda: rounds_of(MIXED, judged),
            lambda: left_of(MIXED, judged), lambda: standing(MIXED), lambda: lies_within(MIXED, judged, judged),
            lambda: unshown_at(MIXED, judged, 0, 8), lambda: open_nodes(MIXED), lambda: dead_nodes(MIXED),
            lambda: is_let_by(MIXED), lambda: scope_at(MIXED, 0, 8), lambda: fits_at(MIXED, judged, 2, 0, (("#r", 0),)),
            lambda: numbers_against(MIXED, judged, 0, 0, 0), lambda: paper_of(MIXED), lambda: check_paper(MIXED, paper),
            lambda: end_text(MIXED, ("limit",)), lambda: inputs_tried(MIXED, 4), lambda: first_fault(MIXED, 4, 300),
            lambda: all_faults(MIXED, 4, 300), lambda: first_break(MIXED, 0, "entry", ("", "a", -4), 4, 300),
            lambda: things_of(MIXED), lambda: hangs_straight(MIXED, 0, "end"), lambda: hangs_on(MIXED, 0, "end"),
            lambda: Keeper(MIXED), lambda: Desk(MIXED_TEXT),
        ]
        for k, call in enumerate(calls):
            self.assertEqual(self.looks(call), 3, k)
        plain = program(function(name="m", params=numbers("n") + rows("r")), function(name="f"), function(name="g"))
        for k, call in enumerate([lambda: need_inputs(plain, inputs), lambda: run(plain, inputs, 300),
                                  lambda: steps_of(plain, inputs, 300), lambda: calls_of(plain, inputs, 300),
                                  lambda: came_to(plain, inputs, 300),
                                  lambda: is_broken(plain, inputs, 300, 0, "entry", ("n", "", 0))]):
            self.assertEqual(self.looks(call), 3, k)

    def test_what_is_changed_and_what_comes_once_each(self):
        change = ("put", 2, MIXED[1][2])
        judged = candidates(MIXED)
        for call in (lambda: changed(MIXED, change), lambda: touched_by(MIXED, change), lambda: standing_anew(MIXED, judged, change)):
            self.assertEqual(self.looks(call), 6)
        keeper = Keeper(MIXED)
        self.assertEqual(self.looks(lambda: keeper.change(change)), 3)
        for call in (keeper.back, keeper.program, keeper.standing, keeper.gone, keeper.looked):
            self.assertEqual(self.looks(call), 0)

    def test_a_desk_looks_just_at_what_comes(self):
        desk = Desk(MIXED_TEXT)
        self.assertEqual(self.looks(lambda: desk.say("put 3 fn k number ; give 0")), 4)
        self.assertEqual(self.looks(lambda: desk.say("drop")), 3)
        for line in ("back", "open", "dead", "rounds", "try 4", "program", "stands g end", "needs g 1", "gone", "run 1 [1]",
                     "break main end a out 0 3"):
            self.assertEqual(self.looks(lambda: desk.say(line)), 0, line)

    def test_each_time_anew(self):
        made = program(function(params=rows("r"), body=("give", row("r")), out="row"))
        for _ in range(3):
            self.assertEqual(self.looks(lambda: need_program(made)), 1)
            self.assertEqual(self.looks(lambda: kinds_of(made, 0)), 1)


if __name__ == "__main__":
    unittest.main()
