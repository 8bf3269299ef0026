"""Points 3, 4 and 5: atoms, args, bodies, and the form of functions and programs."""

import unittest

from strikehall.errors import BadProgram
from strikehall.programs import is_program, need_program
from tests.samples import (
    ATOM, GIVE, HUGE, MIXED, Number, Pair, anything, at, chain, doubled, function, let, musts, nested, numbers,
    program, row, rows)


def place_of(thing):
    """The place by which it is refused, None where it is taken."""
    try:
        told = need_program(thing)
    except BadProgram as refused:
        assert is_program(thing) is False
        return refused.place
    assert told is thing
    assert is_program(thing) is True
    return None


def place_of_body(body, **more):
    """The place by which a body at the second function is refused."""
    return place_of(program(function(name="main"), function(body, **more), function(name="g")))


PARAMS = (("a", "number"), ("b", "number"), ("r", "row"))
RIGHTS = [
    ("be", at("a")), ("sum", at("a"), at("b")), ("long", "r"), ("part", "r", at("a")), ("with", "r", at("a"), at("b")),
    ("cut", "r", at("a")), ("call", "g", ()), ("call", "f", (at("a"), ("num", 1), row("r"))),
]


class Atoms(unittest.TestCase):
    def place_of_atom(self, atom):
        bodies = [
            ("give", atom), ("must", atom, ATOM, GIVE), ("must", ATOM, atom, GIVE), ("if", atom, ATOM, GIVE, GIVE),
            ("if", ATOM, atom, GIVE, GIVE), let("x", ("be", atom)), let("x", ("sum", atom, ATOM)),
            let("x", ("sum", ATOM, atom)), let("x", ("part", "r", atom)), let("x", ("with", "r", atom, ATOM)),
            let("x", ("with", "r", ATOM, atom)), let("x", ("cut", "r", atom)),
            let("x", ("call", "f", (atom, ATOM, row("r")))), let("x", ("call", "f", (ATOM, atom, row("r")))),
        ]
        told = [place_of_body(body, params=PARAMS) for body in bodies]
        self.assertEqual(len(set(told)), 1, (atom, told))
        return told[0]

    def test_good_ones(self):
        for number in range(-4, 5):
            self.assertIsNone(self.place_of_atom(("num", number)))
            self.assertIsNone(self.place_of_atom(("at", "a", number)))

    def test_other_numbers(self):
        for number in (-5, 5, 6, -6, 100, HUGE, -HUGE, 10 ** 299 * 9, True, False, None, "1", "", b"1", (1,), [1], {},
                       Number(1), -1.0, 0.0):
            self.assertEqual(self.place_of_atom(("num", number)), 1, number)
            self.assertEqual(self.place_of_atom(("at", "a", number)), 1, number)

    def test_truths_right_behind_numbers(self):
        for number, truth in ((0, False), (1, True)):
            for make in (lambda c: ("num", c), lambda c: ("at", "a", c)):
                self.assertIsNone(self.place_of_atom(make(number)))
                self.assertEqual(self.place_of_atom(make(truth)), 1)
                self.assertIsNone(self.place_of_atom(make(number)))

    def test_other_forms(self):
        for atom in [("num",), ("num", 1, 1), ("at", "a"), ("at", "a", 0, 0), ("at", 0, "a"), ("Num", 1), ["num", 1],
                     ["at", "a", 0], ("be", 1), (1,), 1, "a", "1", ("num", "a", 1), (b"num", 1), (("num", 1),),
                     ("at", ("a",), 0), ("at", ["a"], 0), (["num"], 1), ({}, 1), Pair(("num", 1))]:
            self.assertEqual(self.place_of_atom(atom), 1, atom)

    def test_anything(self):
        for atom in anything():
            self.assertEqual(self.place_of_atom(atom), 1)
        for part in anything():
            self.assertEqual(self.place_of_atom(("at", part, 0)), 1)
            self.assertEqual(self.place_of_atom((part, "a", 0)), 1)
            self.assertEqual(self.place_of_atom((part, 0)), 1)
            if type(part) is not int or not -4 <= part <= 4:
                self.assertEqual(self.place_of_atom(("num", part)), 1)
                self.assertEqual(self.place_of_atom(("at", "a", part)), 1)

    def test_a_row_stands_only_as_an_arg(self):
        for body in [("must", row("r"), ATOM, GIVE), ("if", ATOM, row("r"), GIVE, GIVE), let("x", ("be", row("r"))),
                     let("x", ("part", row("r"), ATOM)), let("x", ("part", "r", row("r")))]:
            # By its form: it is refused ahead of the fault in the kinds of an earlier function.
            made = program(function(("give", row("r"))), function(body, name="g", params=rows("r")))
            self.assertEqual(place_of(made), 1, body)


class Args(unittest.TestCase):
    def test_rows(self):
        self.assertIsNone(place_of_body(("give", row("r")), params=PARAMS, out="row"))
        for arg in [("row",), ("row", "r", 0), ["row", "r"], ("row", b"r"), ("row", ("r",)), ("rows", "r"), ("row", 0),
                    ("row", "row"), ("row", ""), ("row", "abcdefg"), ("row", None), Pair(("row", "r"))]:
            self.assertEqual(place_of_body(("give", arg), params=PARAMS, out="row"), 1, arg)
            self.assertEqual(place_of_body(let("x", ("call", "f", (ATOM, ATOM, arg))), params=PARAMS), 1, arg)
        for name in anything():
            self.assertEqual(place_of_body(("give", ("row", name)), params=PARAMS, out="row"), 1)

    def test_args_are_a_tuple(self):
        for args in ([], {}, None, "", 0, b"", [ATOM], set(), Pair(), (ATOM, [ATOM]), (ATOM, 1), ((ATOM,),), ((),)):
            # Ahead of a call in an earlier function that does not fit: by its form.
            made = program(function(let("x", ("call", "no", ()))), function(let("x", ("call", "g", args)), name="g"))
            self.assertEqual(place_of(made), 1, args)

    def test_of_many_args_only_the_kinds_can_fail(self):
        for many in (4, 5, 1000, 10 ** 5):
            call = let("x", ("call", "h", (ATOM,) * many))
            self.assertEqual(place_of(program(function(), function(call, name="g"), function(name="h"))), 1)
            late = program(function(), function(call, name="g"), function(("give", ()), name="h"))
            self.assertEqual(place_of(late), 2)
            bad = let("x", ("call", "h", (ATOM,) * many + (5,)))
            self.assertEqual(place_of(program(function(let("y", ("call", "h", ()), GIVE)), function(bad, name="g"))), 1)


class Bodies(unittest.TestCase):
    def test_good_ones(self):
        for right in RIGHTS:
            self.assertIsNone(place_of_body(let("x", right), params=PARAMS), right)
        for body in (GIVE, ("must", ATOM, at("a"), GIVE), ("if", ATOM, at("a"), GIVE, GIVE)):
            self.assertIsNone(place_of_body(body, params=PARAMS), body)

    def test_rights_of_other_forms(self):
        for right in RIGHTS:
            for other in [right + (ATOM,), right[:-1], right[:1], right[1:], list(right), (right[0].upper(),) + right[1:],
                          (right[0] + " ",) + right[1:], (right[0].encode(),) + right[1:], (right,), right[::-1],
                          ((right[0],),) + right[1:], ([right[0]],) + right[1:], Pair(right), ("let",) + right[1:]]:
                self.assertEqual(place_of_body(let("x", other), params=PARAMS), 1, other)
            for k in range(len(right)):
                for part in anything():
                    other = right[:k] + (part,) + right[k + 1:]
                    if not (type(part) is tuple and part == () and right[1] == "g"):
                        self.assertEqual(place_of_body(let("x", other), params=PARAMS), 1)
        for part in anything():
            self.assertEqual(place_of_body(let("x", part), params=PARAMS), 1)
            self.assertEqual(place_of_body(let(part, ("be", ATOM)), params=PARAMS), 1)

    def test_nodes_of_other_forms(self):
        good = [GIVE, let("x", ("be", ATOM)), ("must", ATOM, ATOM, GIVE), ("if", ATOM, ATOM, GIVE, GIVE)]
        for node in good:
            self.assertIsNone(place_of_body(node))
            for other in [node + (GIVE,), node + ((),), node[:-1], node[1:], node[:1], list(node), Pair(node), (node,),
                          (node[0].upper(),) + node[1:], (node[0].encode(),) + node[1:], ([node[0]],) + node[1:],
                          node[::-1], ("be",) + node[1:], ((node[0],),) + node[1:], {}, dict(enumerate(node))]:
                self.assertEqual(place_of_body(other), 1, other)
                self.assertEqual(place_of_body(let("y", ("be", ATOM), other)), 1, other)
                self.assertEqual(place_of_body(("if", ATOM, ATOM, other, GIVE)), 1, other)
                self.assertEqual(place_of_body(("if", ATOM, ATOM, GIVE, other)), 1, other)

    def test_anything_in_the_place_of_a_body(self):
        for thing in anything():
            for body in (thing, let("y", ("be", ATOM), thing), ("must", ATOM, ATOM, thing),
                         ("if", ATOM, ATOM, thing, GIVE), ("if", ATOM, ATOM, GIVE, thing)):
                self.assertEqual(place_of_body(body), 1)

    def test_words_of_other_nodes(self):
        for node in [("must", ATOM, ATOM, GIVE, GIVE), ("if", ATOM, ATOM, GIVE), ("let", "x", ("be", ATOM)),
                     ("give", ATOM, GIVE), ("give",), ("else",), ("call", "g", ()), ("be", ATOM), ()]:
            self.assertEqual(place_of_body(node), 1, node)

    def test_how_many_nodes(self):
        for many in range(1, 13):
            self.assertIsNone(place_of_body(chain(many)), many)
            self.assertIsNone(place_of_body(musts(many - 1)), many)
        for many in (13, 14, 15, 20):
            self.assertEqual(place_of_body(chain(many)), 1, many)
        for many in (12, 13, 100, 5000, 50000):
            self.assertEqual(place_of_body(musts(many)), 1, many)

    def test_how_many_nodes_with_ifs(self):
        seven = doubled(2)
        self.assertIsNone(place_of_body(musts(5, seven)))
        self.assertEqual(place_of_body(musts(6, seven)), 1)
        self.assertIsNone(place_of_body(("if", ATOM, ATOM, seven, doubled(1))))
        self.assertIsNone(place_of_body(("if", ATOM, ATOM, musts(3), seven)))
        self.assertEqual(place_of_body(("if", ATOM, ATOM, musts(4), seven)), 1)
        self.assertEqual(place_of_body(("if", ATOM, ATOM, seven, musts(4))), 1)

    def test_one_body_that_stands_many_times(self):
        self.assertIsNone(place_of_body(doubled(2)))
        for times in (3, 4, 10, 64, 1000, 20000):
            self.assertEqual(place_of_body(doubled(times)), 1, times)
        for bad in (None, ("give",), [GIVE]):
            self.assertEqual(place_of_body(("if", ATOM, ATOM, doubled(100), bad)), 1)

    def test_deep_ones(self):
        for make in (lambda inner: let("x", ("be", inner)), lambda inner: ("give", inner), lambda inner: (inner,) * 4,
                     lambda inner: ("must", inner, inner, inner), lambda inner: ("if", ATOM, ATOM, inner, inner)):
            self.assertEqual(place_of_body(nested(20000, make)), 1)


class Functions(unittest.TestCase):
    def place_at_each(self, thing):
        """It is refused by its number wherever it stands."""
        for many in range(1, 5):
            for k in range(many):
                functions = [function(name=name) for name in "mnop"[:many]]
                functions[k] = thing
                self.assertEqual(place_of(((), tuple(functions))), k)

    def test_other_forms(self):
        good = function(params=numbers("a"))
        for thing in [good[:3], good + ((),), list(good), good[::-1], (), good[:1], good[1:], Pair(good), (good,),
                      dict(enumerate(good))]:
            self.place_at_each(thing)

    def test_anything(self):
        for thing in anything():
            self.place_at_each(thing)
            self.place_at_each(function(name=thing))
            self.place_at_each(function(out=thing))
            self.place_at_each(function(body=thing))
            self.place_at_each(function(params=((thing, "row"),)))
            self.place_at_each(function(params=(("a", thing),)))
            self.place_at_each(function(params=(thing,)))
            if not (type(thing) is tuple and thing == ()):
                self.place_at_each(function(params=thing))

    def test_params(self):
        for names in ("", "a", "ab", "abc"):
            self.assertIsNone(place_of(program(function(params=numbers(*names)))))
            self.assertIsNone(place_of(program(function(params=rows(*names)))))
        for params in [numbers(*"abcd"), numbers(*"abcde"), numbers("a") * 4, [], list(numbers("a")), ("a", "number"),
                       (("a",),), (("a", "number", 0),), (["a", "number"],), (("number", "a"),), ("ab",), None, {},
                       {"a": "number"}, (("a", "number"), "b"), numbers("a") * 10 ** 5, Pair(numbers("a"))]:
            self.place_at_each(function(params=params))

    def test_how_many_functions(self):
        functions = [function(name=name) for name in "abcde"]
        for many in range(1, 5):
            self.assertIsNone(place_of(program(*functions[:many])))
        self.assertEqual(place_of(program()), -1)
        self.assertEqual(place_of(program(*functions)), -1)
        self.assertEqual(place_of(program(*functions * 10 ** 4)), -1)
        self.assertEqual(place_of(program(*[None] * 5)), -1)


class Programs(unittest.TestCase):
    def test_a_good_one_is_told_itself(self):
        self.assertIs(need_program(MIXED), MIXED)
        self.assertIs(is_program(MIXED), True)

    def test_other_forms(self):
        good = program(function())
        for thing in [good[::-1], good + ((),), good[:1], good[1:], list(good), Pair(good), ((), list(good[1])),
                      ([], good[1]), (None, good[1]), ({}, good[1]), ("", good[1]), (good[1], None), (good,),
                      ((), ()), ((), {}), ((), "f"), ((), None), (Pair(), good[1]), ((), Pair(good[1])), {(): good[1]}]:
            self.assertEqual(place_of(thing), -1, thing)

    def test_anything(self):
        for thing in anything():
            pair = type(thing) is tuple and len(thing) == 2 and type(thing[0]) is tuple and len(thing[1]) > 0
            self.assertEqual(place_of(thing), 0 if pair else -1)
            if type(thing) is not tuple:
                self.assertEqual(place_of((thing, (function(),))), -1)
                self.assertEqual(place_of(((), thing)), -1)

    def test_truths_are_no_programs(self):
        for thing in (True, False, 1, 0):
            self.assertIs(is_program(thing), False)

    def test_nothing_is_changed(self):
        functions = [list(function())]
        thing = ([], functions)
        self.assertIs(is_program(thing), False)
        self.assertEqual(thing, ([], [list(function())]))


if __name__ == "__main__":
    unittest.main()
