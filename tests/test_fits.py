"""Point 5: names, kinds, calls, GIVEN, and the order of refusals."""

import unittest

from strikehall.errors import BadProgram, StrikeError
from strikehall.programs import is_program, need_program
from tests.samples import (
    ATOM, GIVE, HUGE, Number, Pair, Text, anything, at, chain, function, let, musts, numbers, program, row, rows)
from tests.test_forms import place_of, place_of_body

BE = ("be", ATOM)


class Names(unittest.TestCase):
    def test_unlike_ones(self):
        self.assertIsNone(place_of_body(chain(12), params=numbers("x", "y", "z")))
        self.assertIsNone(place_of_body(chain(12), params=rows("x", "y", "z")))

    def test_alike_params(self):
        for params in (numbers("a", "a"), rows("a", "a"), numbers("a") + rows("a"), numbers("a", "b", "a"),
                       numbers("b", "a", "a"), numbers("a", "b") + rows("b")):
            self.assertEqual(place_of_body(GIVE, params=params), 1, params)

    def test_alike_lets(self):
        for body in [let("a", BE, let("a", BE)), let("a", BE, let("b", BE, let("a", BE))),
                     let("a", BE, ("if", ATOM, ATOM, GIVE, let("a", BE))),
                     let("a", BE, ("must", ATOM, ATOM, let("a", BE)))]:
            self.assertEqual(place_of_body(body), 1, body)

    def test_alike_on_unlike_ways(self):
        body = ("if", ATOM, ATOM, let("a", BE), let("b", BE))
        self.assertIsNone(place_of_body(body))
        self.assertEqual(place_of_body(("if", ATOM, ATOM, let("a", BE), let("a", BE))), 1)
        inner = let("b", BE)
        self.assertEqual(place_of_body(("if", ATOM, ATOM, inner, inner)), 1)
        self.assertEqual(place_of_body(("if", ATOM, ATOM, ("if", ATOM, ATOM, let("a", BE), GIVE), let("a", BE))), 1)

    def test_a_let_like_a_param(self):
        self.assertEqual(place_of_body(let("a", BE), params=numbers("a")), 1)
        self.assertEqual(place_of_body(let("a", BE), params=rows("b", "a")), 1)
        self.assertEqual(place_of_body(("if", ATOM, ATOM, GIVE, let("a", BE)), params=numbers("a")), 1)

    def test_functions_names_are_another_matter(self):
        body = let("g", BE, let("x", ("call", "f", (ATOM, at("g"))), ("give", at("main"))))
        self.assertIsNone(place_of_body(body, params=numbers("f", "main")))

    def test_other_functions_names_are_another_matter(self):
        self.assertIsNone(place_of(program(
            function(chain(12), name="f", params=numbers("x")), function(chain(12), name="g", params=numbers("x")))))

    def test_alike_functions(self):
        for names, place in (("aa", 1), ("aba", 2), ("abb", 2), ("abca", 3), ("abcc", 3), ("aaaa", 1), ("abbb", 2)):
            self.assertEqual(place_of(program(*[function(name=name) for name in names])), place, names)


class Uses(unittest.TestCase):
    def nodes_that_use(self, name):
        return [
            ("must", at(name), ATOM, GIVE), ("must", ATOM, at(name, 2), GIVE), ("if", at(name, -4), ATOM, GIVE, GIVE),
            ("if", ATOM, at(name), GIVE, GIVE), ("give", at(name)), let("q", ("be", at(name))),
            let("q", ("sum", at(name), ATOM)), let("q", ("sum", ATOM, at(name))), let("q", ("part", "r", at(name))),
            let("q", ("with", "r", at(name), ATOM)), let("q", ("with", "r", ATOM, at(name))),
            let("q", ("cut", "r", at(name))), let("q", ("call", "f", (at(name), row("r")))),
        ]

    def nodes_that_use_row(self, name):
        return [
            let("q", ("long", name)), let("q", ("part", name, ATOM)), let("q", ("with", name, ATOM, ATOM)),
            let("q", ("cut", name, ATOM)), let("q", ("call", "f", (ATOM, row(name)))),
        ]

    def test_of_params(self):
        params = numbers("n") + rows("r")
        for node in self.nodes_that_use("n") + self.nodes_that_use_row("r"):
            self.assertIsNone(place_of_body(node, params=params), node)
        for node in self.nodes_that_use("r") + self.nodes_that_use_row("n"):
            self.assertEqual(place_of_body(node, params=params), 1, node)
        for node in self.nodes_that_use("x") + self.nodes_that_use_row("x"):
            self.assertEqual(place_of_body(node, params=params), 1, node)

    def test_of_lets(self):
        params = numbers("n") + rows("r")
        of_numbers = [("be", ATOM), ("sum", ATOM, ATOM), ("long", "r"), ("part", "r", ATOM),
                      ("call", "f", (ATOM, row("r"))), ("call", "g", ())]
        of_rows = [("with", "r", ATOM, ATOM), ("cut", "r", ATOM), ("call", "h", ())]
        for right in of_numbers + of_rows:
            of_row = right in of_rows
            for node in self.nodes_that_use("x"):
                self.assertEqual(self.place_behind(right, node, params), 1 if of_row else None, (right, node))
            for node in self.nodes_that_use_row("x"):
                self.assertEqual(self.place_behind(right, node, params), None if of_row else 1, (right, node))

    def place_behind(self, right, node, params):
        return place_of(program(
            function(name="main"), function(let("x", right, node), params=params), function(name="g"),
            function(name="h", params=(), out="row", body=let("y", ("call", "h", ()), ("give", row("y"))))))

    def test_not_ahead_on_the_way(self):
        use = ("give", at("x"))
        self.assertIsNone(place_of_body(let("x", BE, use)))
        self.assertIsNone(place_of_body(let("x", BE, ("if", at("x"), ATOM, ("must", ATOM, at("x"), use), use))))
        self.assertEqual(place_of_body(let("x", ("be", at("x")))), 1)
        self.assertEqual(place_of_body(let("y", ("be", at("x")), let("x", BE))), 1)
        self.assertEqual(place_of_body(("if", ATOM, ATOM, let("x", BE), use)), 1)
        self.assertEqual(place_of_body(("if", ATOM, ATOM, use, let("x", BE))), 1)
        self.assertEqual(place_of_body(("if", at("x"), ATOM, let("x", BE), GIVE)), 1)
        self.assertEqual(place_of_body(("must", at("x"), ATOM, let("x", BE))), 1)

    def test_names_of_other_functions(self):
        self.assertEqual(place_of(program(function(let("x", BE)), function(("give", at("x")), name="g"))), 1)
        self.assertEqual(place_of(program(function(params=numbers("x")), function(("give", at("x")), name="g"))), 1)

    def test_what_is_given(self):
        params = numbers("n") + rows("r")
        for arg, kind in ((ATOM, "number"), (at("n"), "number"), (at("n", 4), "number"), (row("r"), "row")):
            for out in ("number", "row"):
                for make in (lambda give: give, lambda give: ("must", ATOM, ATOM, give)):
                    told = place_of_body(make(("give", arg)), params=params, out=out)
                    self.assertEqual(told, None if out == kind else 1, (arg, out))
        self.assertEqual(place_of_body(("if", ATOM, ATOM, ("give", ATOM), ("give", row("r"))), params=params), 1)
        self.assertEqual(place_of_body(("if", ATOM, ATOM, ("give", row("r")), ("give", ATOM)), params=params), 1)


class Calls(unittest.TestCase):
    def place(self, args, params):
        call = let("x", ("call", "g", args))
        return place_of(program(function(call, params=numbers("n") + rows("r")), function(name="g", params=params)))

    def test_args(self):
        number, other = at("n", 1), row("r")
        for many in range(4):
            self.assertIsNone(self.place((number,) * many, numbers(*"abc"[:many])))
            self.assertIsNone(self.place((other,) * many, rows(*"abc"[:many])))
            for more in range(6):
                if more != many:
                    self.assertEqual(self.place((number,) * more, numbers(*"abc"[:many])), 0)
        self.assertIsNone(self.place((number, other, ATOM), numbers("a") + rows("b") + numbers("c")))
        for args in ((other, number), (number, number), (other, other), (ATOM, ATOM), (number,), (), (number, other, ATOM)):
            self.assertEqual(self.place(args, numbers("a") + rows("b")), 0, args)

    def test_of_what(self):
        def place(name, caller):
            functions = [function(name=called) for called in ("main", "f", "g")]
            functions[caller] = function(let("x", ("call", name, ())), name=functions[caller][0])
            return place_of(program(*functions))
        for caller in range(3):
            for name in ("f", "g"):
                self.assertIsNone(place(name, caller))
            for name in ("main", "h", "x"):
                self.assertEqual(place(name, caller), caller)

    def test_of_like_names_the_first(self):
        call = function(let("x", ("call", "g", (ATOM,))), name="main")
        one, other = function(name="g", params=numbers("a")), function(name="g")
        self.assertEqual(place_of(program(call, one, other)), 2)
        self.assertEqual(place_of(program(call, other, one)), 0)
        again = function(let("x", ("call", "main", ())), name="f")
        self.assertEqual(place_of(program(function(name="main"), again, function(name="main"))), 1)

    def test_the_kind_of_what_a_call_gives(self):
        for caller, called in ((1, 2), (2, 1), (1, 1), (0, 3), (3, 1)):
            for out in ("number", "row"):
                for arg in (at("x"), row("x")):
                    functions = [function(name=name, params=rows("r")) for name in "mfgh"]
                    give = ("give", row("r")) if out == "row" else GIVE
                    functions[called] = (functions[called][0], rows("r"), out, give)
                    name = functions[called][0]
                    kind = "row" if arg[0] == "row" else "number"
                    body = let("x", ("call", name, (row("r"),)), ("give", arg))
                    functions[caller] = (functions[caller][0], rows("r"), out if caller == called else kind, body)
                    self.assertEqual(place_of(program(*functions)), None if kind == out else caller, (caller, called))


class Given(unittest.TestCase):
    PARAMS = (("a", "number"), ("r", "row"), ("b", "number"))

    def place(self, *given):
        return place_of((tuple(given), (function(params=self.PARAMS), function(name="g", params=numbers("z")))))

    def test_good_ones(self):
        terms = ("", "a", "b", "#r")
        for one in terms:
            for other in terms:
                for most in range(-4, 5):
                    self.assertEqual(self.place((one, other, most)), -1 if one == other else None)

    def test_how_many(self):
        saying = ("a", "b", 0)
        for many in range(5):
            self.assertIsNone(self.place(*[saying] * many))
        for many in (5, 6, 10 ** 5):
            self.assertEqual(self.place(*[saying] * many), -1)

    def test_each_one_counts(self):
        for many in range(1, 5):
            for k in range(many):
                given = [("a", "b", 0)] * many
                given[k] = ("a", "c", 0)
                self.assertEqual(self.place(*given), -1)

    def test_terms_of_others(self):
        for term in ("c", "#a", "r", "#b", "z", "#", "0", "out", "#out", "# r", "##r", " ", "A", "let", b"a", b"", None,
                     0, ("a",), ["a"], Text("a"), Text("")):
            self.assertEqual(self.place((term, "a", 0)), -1, term)
            self.assertEqual(self.place(("b", term, 0)), -1, term)

    def test_numbers(self):
        for most in (-5, 5, HUGE, -HUGE, True, False, None, "0", "", b"0", (0,), [0], {}, Number(0), 0.0):
            self.assertEqual(self.place(("a", "b", most)), -1, most)
        for number, truth in ((0, False), (1, True)):
            self.assertIsNone(self.place(("a", "b", number)))
            self.assertEqual(self.place(("a", "b", truth)), -1)

    def test_other_forms(self):
        for saying in (("a", "b"), ("a", "b", 0, 0), ["a", "b", 0], "ab0", (), None, {"a": "b"}, Pair(("a", "b", 0)),
                       (0, "a", "b"), ("", "", -1), ("", "", 0)):
            self.assertEqual(self.place(saying), -1, saying)

    def test_anything(self):
        for thing in anything():
            self.assertEqual(self.place(thing), -1)
            self.assertEqual(self.place((thing, "b", 0)), None if type(thing) is str and thing == "" else -1)
            self.assertEqual(self.place(("b", thing, 0)), None if type(thing) is str and thing == "" else -1)
            small = type(thing) is int and -4 <= thing <= 4
            self.assertEqual(self.place(("a", "b", thing)), None if small else -1)

    def test_of_no_params(self):
        for given in ((("", "a", 0),), (("", "", 0),), (("", "#r", 0),)):
            self.assertEqual(place_of((given, (function(), function(name="g", params=self.PARAMS)))), -1)


class Order(unittest.TestCase):
    BAD_FORM = function(body=("give",))
    BAD_NAMES = function(body=("give", at("x")))

    def test_form_ahead_of_names(self):
        good = function
        self.assertEqual(place_of(program(self.BAD_NAMES, self.BAD_FORM)), 1)
        self.assertEqual(place_of(program(self.BAD_NAMES, good(), good(), self.BAD_FORM)), 3)
        self.assertEqual(place_of(program(self.BAD_FORM, self.BAD_NAMES)), 0)
        self.assertEqual(place_of(program(good(), self.BAD_FORM, self.BAD_FORM)), 1)
        self.assertEqual(place_of(program(good(name="m"), self.BAD_NAMES, self.BAD_NAMES)), 1)

    def test_many_nodes_and_params_ahead_of_names(self):
        self.assertEqual(place_of(program(self.BAD_NAMES, function(musts(12)))), 1)
        self.assertEqual(place_of(program(self.BAD_NAMES, function(params=numbers(*"abcd")))), 1)
        self.assertEqual(place_of(program(self.BAD_NAMES, function(params=numbers("a", "a")))), 0)

    def test_given_last_of_all(self):
        bad = (("x", "y", 0),)
        self.assertEqual(place_of((bad, (function(),))), -1)
        self.assertEqual(place_of((bad, (self.BAD_FORM,))), 0)
        self.assertEqual(place_of((bad, (function(name="m"), self.BAD_NAMES))), 1)
        self.assertEqual(place_of((bad, (function(name="m"), self.BAD_FORM))), 1)
        self.assertEqual(place_of((bad * 5, (function(name="m"), self.BAD_NAMES))), 1)
        self.assertEqual(place_of((list(bad), (function(name="m"), self.BAD_NAMES))), -1)

    def test_number_of_functions_ahead_of_all(self):
        self.assertEqual(place_of(((), (self.BAD_FORM,) * 5)), -1)
        self.assertEqual(place_of(((), (self.BAD_FORM,) * 4)), 0)

    def test_like_names_and_other_faults(self):
        self.assertEqual(place_of(program(function(name="a"), function(name="a"), self.BAD_NAMES)), 1)
        self.assertEqual(place_of(program(function(name="a"), self.BAD_NAMES, function(name="a"))), 1)

    def test_the_refusal(self):
        with self.assertRaises(StrikeError) as told:
            need_program(program(function(), self.BAD_FORM))
        self.assertIs(type(told.exception), BadProgram)
        self.assertEqual(told.exception.place, 1)
        self.assertIs(type(told.exception.place), int)
        self.assertIs(is_program(program(function(), self.BAD_FORM)), False)


if __name__ == "__main__":
    unittest.main()
