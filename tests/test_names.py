"""Points 1 and 2: names and kinds."""

import string
import unittest

from strikehall.programs import is_name, is_program
from tests.samples import Text, anything, function, let, program

WORDS = "fn let if else give be sum long part with cut call must number row out given".split()


class Names(unittest.TestCase):
    def test_names(self):
        for name in ["a", "z", "abc", "abcdef", "zzzzzz", "fns", "lets", "ifs", "f", "gives", "rows", "outs", "none"]:
            self.assertIs(is_name(name), True, name)
        for letter in string.ascii_lowercase:
            self.assertIs(is_name(letter), True)
            self.assertIs(is_name(letter * 6), True)
            self.assertIs(is_name(letter * 7), False)

    def test_words_are_none(self):
        self.assertEqual(len(WORDS), 17)
        for word in WORDS:
            self.assertIs(is_name(word), False, word)

    def test_words_of_other_points_are_names(self):
        for name in ("num", "at", "fault", "limit", "entry", "end", "fits", "chain", "ring", "open", "none"):
            self.assertIs(is_name(name), True, name)

    def test_other_texts_are_none(self):
        for text in ("", " ", "a ", " a", "A", "aB", "a1", "1", "a_b", "_", "a-b", "a+1", "#a", "a\n", "\n", "abcdefg",
                     "a b", "`", "{", "0", "-"):
            self.assertIs(is_name(text), False, text)
        for sign in map(chr, range(32, 127)):
            self.assertIs(is_name(sign), sign in string.ascii_lowercase, sign)
            self.assertIs(is_name("a" + sign), sign in string.ascii_lowercase, sign)

    def test_anything_else_is_none(self):
        for thing in anything():
            self.assertIs(is_name(thing), False)
        for thing in (b"a", ["a"], ("a",), {"a": 1}, ("a", "b"), list("abc"), Text("a")):
            self.assertIs(is_name(thing), False)

    def test_a_name_wherever_one_stands(self):
        def programs(name):
            return [
                program(function(name=name)),
                program(function(params=((name, "number"),))),
                program(function(let(name, ("be", ("num", 0))))),
                program(function(let("x", ("call", name, ()))), function(name=name)),
                program(function(("give", ("at", name, 0)), params=((name, "number"),))),
                program(function(("give", ("row", name)), params=((name, "row"),), out="row")),
                program(function(let("x", ("long", name)), params=((name, "row"),))),
            ]
        for name in ("a", "abcdef"):
            for made in programs(name):
                self.assertIs(is_program(made), True, made)
        for name in WORDS + ["", "abcdefg", "A", "a1", "#a", None, 0, b"a", ["a"], ("a",), Text("a")]:
            for made in programs(name):
                self.assertIs(is_program(made), False, made)

    def test_kinds(self):
        for kind in ("number", "row"):
            self.assertIs(is_program(program(function(params=(("a", kind),)))), True)
        self.assertIs(is_program(program(function(params=(("a", "row"),), body=("give", ("row", "a")), out="row"))), True)
        for kind in ["num", "rows", "", "Number", "row ", "text", b"row", ["row"], 0, None, True, ("row",), Text("row")]:
            self.assertIs(is_program(program(function(params=(("a", kind),)))), False, kind)
            self.assertIs(is_program(program(function(out=kind))), False, kind)


if __name__ == "__main__":
    unittest.main()
