"""Point 7: programs as texts."""

import unittest

from strikehall.errors import BadProgram, BadText
from strikehall.programs import need_program
from strikehall.texts import atom_text, program_text, read_program
from tests.samples import (
    ATOM, GIVE, HUGE, MIXED, MIXED_TEXT, anything, at, chain, function, let, musts, numbers, program, row, rows)


class Atoms(unittest.TestCase):
    def test_numbers(self):
        for number in range(-4, 5):
            self.assertEqual(atom_text(("num", number)), str(number))

    def test_names(self):
        for name in ("a", "abcdef"):
            self.assertEqual(
                [atom_text(("at", name, more)) for more in range(-4, 5)],
                [name + more for more in ("-4", "-3", "-2", "-1", "", "+1", "+2", "+3", "+4")])

    def test_greater_numbers(self):
        self.assertEqual(atom_text(("num", 12)), "12")
        self.assertEqual(atom_text(("at", "a", -12)), "a-12")
        self.assertEqual(atom_text(("num", -HUGE)), "-1" + "0" * 299)
        self.assertEqual(atom_text(("at", "a", HUGE)), "a+1" + "0" * 299)


class Texts(unittest.TestCase):
    def both_ways(self, made, text):
        need_program(made)
        self.assertEqual(program_text(made), text)
        self.assertEqual(read_program(text), made)
        self.same_kinds(read_program(text), made)

    def same_kinds(self, one, other):
        """Like the other one, also in that tuples are tuples and no truth stands for a number."""
        self.assertIs(type(one), type(other))
        if type(one) is tuple:
            self.assertEqual(len(one), len(other))
            for part, like in zip(one, other):
                self.same_kinds(part, like)

    def test_a_great_one(self):
        self.both_ways(MIXED, MIXED_TEXT)

    def test_the_least_one(self):
        self.both_ways(program(function(("give", ("num", 0)))), "fn f number\ngive 0")

    def test_each_right(self):
        params = numbers("a") + rows("r")
        head = "fn f number a:number r:row\n"
        for right, text in [
                (("be", at("a")), "be a"), (("be", ("num", -3)), "be -3"), (("sum", at("a", 1), ("num", 2)), "sum a+1 2"),
                (("sum", ("num", 2), at("a", -1)), "sum 2 a-1"), (("long", "r"), "long r"),
                (("part", "r", at("a", 4)), "part r a+4"), (("part", "r", ("num", 4)), "part r 4"),
                (("with", "r", at("a"), ("num", -1)), "with r a -1"), (("cut", "r", at("a", -4)), "cut r a-4"),
                (("call", "g", ()), "call g"), (("call", "h", (row("r"),)), "call h r"),
                (("call", "k", (at("a"), row("r"), ("num", 1))), "call k a r 1"),
                (("call", "k", (at("a", 3), row("r"), at("a", -3))), "call k a+3 r a-3")]:
            functions = [function(let("x", right), params=params), function(name="g"),
                         function(name="h", params=rows("r"), out="row", body=("give", row("r"))),
                         function(name="k", params=numbers("a") + rows("r") + numbers("b"))]
            rest = "\ngive 0\nfn g number\ngive 0\nfn h row r:row\ngive r\nfn k number a:number r:row b:number\ngive 0"
            self.both_ways(program(*functions), head + "let x " + text + rest)

    def test_each_number(self):
        for number in range(-4, 5):
            made = program(function(("give", ("num", number)), params=numbers("a")), given=(("", "a", number),))
            self.both_ways(made, f"given 0 a {number}\nfn f number a:number\ngive {number}")
        for number, text in zip(range(-4, 5), ("a-4", "a-3", "a-2", "a-1", "a", "a+1", "a+2", "a+3", "a+4")):
            made = program(function(("give", at("a", number)), params=numbers("a")))
            self.both_ways(made, "fn f number a:number\ngive " + text)

    def test_each_node(self):
        params = numbers("a") + rows("r")
        head = "fn f number a:number r:row\n"
        for body, text in [
                (("give", at("a")), "give a"), (("give", at("a", -1)), "give a-1"), (("give", ("num", -1)), "give -1"),
                (("must", ATOM, at("a", 1), GIVE), "must 0 a+1\ngive 0"),
                (("if", at("a"), ATOM, GIVE, ("give", ("num", 1))), "if a 0\n give 0\nelse\n give 1"),
                (("must", ATOM, ATOM, ("if", ATOM, ATOM, GIVE, GIVE)), "must 0 0\nif 0 0\n give 0\nelse\n give 0"),
                (("if", ATOM, ATOM, ("if", ATOM, ATOM, GIVE, GIVE), GIVE),
                 "if 0 0\n if 0 0\n  give 0\n else\n  give 0\nelse\n give 0"),
                (("if", ATOM, ATOM, GIVE, ("if", ATOM, ATOM, GIVE, GIVE)),
                 "if 0 0\n give 0\nelse\n if 0 0\n  give 0\n else\n  give 0")]:
            self.both_ways(program(function(body, params=params)), head + text)

    def test_rows_given(self):
        made = program(function(let("s", ("cut", "r", ATOM), ("if", ATOM, ATOM, ("give", row("r")), ("give", row("s")))),
                                params=rows("r"), out="row"))
        self.both_ways(made, "fn f row r:row\nlet s cut r 0\nif 0 0\n give r\nelse\n give s")

    def test_a_name_alone_is_what_its_kind_says(self):
        head = "fn f number a:KIND\nlet x call g a\ngive 0\nfn g number b:KIND\ngive 0"
        for kind, arg in (("number", at("a")), ("row", row("a"))):
            call = let("x", ("call", "g", (arg,)))
            self.both_ways(program(function(call, params=(("a", kind),)), function(name="g", params=(("b", kind),))),
                           head.replace("KIND", kind))

    def test_a_name_let_by_a_call_ahead_of_what_is_called(self):
        for kind, arg in (("number", at("x")), ("row", row("x"))):
            give = ("give", row("r")) if kind == "row" else GIVE
            made = program(
                function(let("x", ("call", "g", (row("r"),)), ("give", arg)), params=rows("r"), out=kind),
                function(give, name="g", params=rows("r"), out=kind))
            last = "r" if kind == "row" else "0"
            text = f"fn f {kind} r:row\nlet x call g r\ngive x\nfn g {kind} r:row\ngive {last}"
            self.both_ways(made, text)

    def test_given(self):
        params = numbers("a", "b") + rows("r")
        for many in range(5):
            for sayings, text in [((("", "a", 4),), "given 0 a 4"), ((("a", "", -4),), "given a 0 -4"),
                                  ((("a", "#r", 0),), "given a #r 0"), ((("#r", "b", 1),), "given #r b 1")]:
                made = program(function(params=params), given=sayings * many)
                self.both_ways(made, (text + "\n") * many + "fn f number a:number b:number r:row\ngive 0")

    def test_how_many(self):
        names = ["", " a:number", " a:number b:row", " a:number b:row c:number"]
        params = (("a", "number"), ("b", "row"), ("c", "number"))
        for many in range(4):
            self.both_ways(program(function(params=params[:many])), "fn f number" + names[many] + "\ngive 0")
        for many in range(1, 5):
            self.both_ways(program(*[function(name=name) for name in "abcd"[:many]]),
                           "\n".join("fn " + name + " number\ngive 0" for name in "abcd"[:many]))
        for many in range(1, 13):
            self.both_ways(program(function(musts(many - 1))), "fn f number\n" + "must 0 0\n" * (many - 1) + "give 0")

    def test_names_of_6_letters(self):
        made = program(function(let("zzzzzz", ("be", at("abcdef", 1)), ("give", at("zzzzzz", -1))), name="ghijkl",
                                params=numbers("abcdef")), given=(("", "abcdef", 0),))
        self.both_ways(made, "given 0 abcdef 0\nfn ghijkl number abcdef:number\nlet zzzzzz be abcdef+1\ngive zzzzzz-1")

    def test_one_body_at_two_nodes(self):
        inner = ("if", ATOM, ATOM, GIVE, GIVE)
        made = program(function(("if", ATOM, ATOM, inner, inner)))
        text = "fn f number\nif 0 0\n if 0 0\n  give 0\n else\n  give 0\nelse\n if 0 0\n  give 0\n else\n  give 0"
        self.both_ways(made, text)

    def test_told_programs_are_programs(self):
        for text in (MIXED_TEXT, program_text(program(function(chain(12))))):
            need_program(read_program(text))


class Refused(unittest.TestCase):
    def test_no_program(self):
        for made, place in [(((), ()), -1), (program(function(), function(("give",))), 1), (None, -1),
                            (program(function(), function()), 1), (program(function(), given=(("", "a", 0),)), -1)]:
            with self.assertRaises(BadProgram) as told:
                program_text(made)
            self.assertEqual(told.exception.place, place)

    def test_no_text(self):
        for thing in anything() + [MIXED, MIXED_TEXT.encode(), [MIXED_TEXT], MIXED_TEXT.split("\n")]:
            with self.assertRaises(BadText) as told:
                read_program(thing)
            self.assertEqual(told.exception.row, 0 if type(thing) is str else -1)


if __name__ == "__main__":
    unittest.main()
