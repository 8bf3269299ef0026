"""Points 1 and 4: nodes, the ways to them, the names of a function, and what is refused."""

import copy
import unittest

from strikehall.errors import BadProgram, BadQuestion
from strikehall.programs import ahead_of, kinds_of, nodes_of
from strikehall.texts import program_text
from tests.samples import ATOM, GIVE, HUGE, MIXED, Number, anything, chain, doubled, function, let, musts, program

BRANCHED = program(function(
    let("a", ("be", ATOM), ("if", ATOM, ATOM,
                            ("if", ATOM, ATOM, GIVE, ("must", ATOM, ATOM, GIVE)),
                            let("b", ("be", ATOM), ("if", ATOM, ATOM, GIVE, GIVE)))), params=(("z", "row"),)))
BAD = program(function(), function(("give",)))


class Nodes(unittest.TestCase):
    def test_by_number(self):
        body = BRANCHED[1][0][3]
        outer = body[3]
        inner, other = outer[3], outer[4]
        self.assertEqual(nodes_of(BRANCHED, 0), [
            body, outer, inner, GIVE, inner[4], GIVE, other, other[3], GIVE, GIVE])

    def test_of_each_function(self):
        self.assertEqual([len(nodes_of(MIXED, f)) for f in range(3)], [9, 6, 1])
        self.assertEqual(nodes_of(MIXED, 2), [("give", ("row", "r"))])
        self.assertEqual(nodes_of(MIXED, 1)[0], MIXED[1][1][3])
        self.assertEqual([node[0] for node in nodes_of(MIXED, 0)],
                         ["let", "let", "if", "give", "if", "give", "let", "must", "give"])

    def test_of_1_and_12_nodes(self):
        self.assertEqual(nodes_of(program(function()), 0), [GIVE])
        self.assertEqual(len(nodes_of(program(function(chain(12))), 0)), 12)

    def test_one_body_at_two_nodes(self):
        body = doubled(2)
        self.assertEqual(nodes_of(program(function(body)), 0), [body, body[3], GIVE, GIVE, body[3], GIVE, GIVE])

    def test_each_time_a_new_list(self):
        told = nodes_of(MIXED, 0)
        self.assertIs(type(told), list)
        told.clear()
        self.assertEqual(len(nodes_of(MIXED, 0)), 9)
        self.assertIsNot(nodes_of(MIXED, 0), nodes_of(MIXED, 0))


class Ahead(unittest.TestCase):
    def test_ways(self):
        ways = [(), ((0, 0),), ((0, 0), (1, 0)), ((0, 0), (1, 0), (2, 0)), ((0, 0), (1, 0), (2, 1)),
                ((0, 0), (1, 0), (2, 1), (4, 0)), ((0, 0), (1, 1)), ((0, 0), (1, 1), (6, 0)),
                ((0, 0), (1, 1), (6, 0), (7, 0)), ((0, 0), (1, 1), (6, 0), (7, 1))]
        self.assertEqual([ahead_of(BRANCHED, 0, n) for n in range(10)], ways)
        for n in range(10):
            self.assertIs(type(ahead_of(BRANCHED, 0, n)), tuple)

    def test_one_body_at_two_nodes(self):
        made = program(function(doubled(2)))
        self.assertEqual([ahead_of(made, 0, n) for n in range(7)], [
            (), ((0, 0),), ((0, 0), (1, 0)), ((0, 0), (1, 1)), ((0, 1),), ((0, 1), (4, 0)), ((0, 1), (4, 1))])

    def test_of_a_chain(self):
        made = program(function(musts(11)))
        self.assertEqual(ahead_of(made, 0, 11), tuple((n, 0) for n in range(11)))

    def test_of_each_function(self):
        self.assertEqual(ahead_of(MIXED, 2, 0), ())
        self.assertEqual(ahead_of(MIXED, 1, 5), tuple((n, 0) for n in range(5)))
        self.assertEqual(ahead_of(MIXED, 0, 8), ((0, 0), (1, 0), (2, 1), (4, 1), (6, 0), (7, 0)))


class Kinds(unittest.TestCase):
    def test_all_names(self):
        self.assertEqual(kinds_of(BRANCHED, 0), {"a": "number", "b": "number", "z": "row"})
        self.assertEqual(kinds_of(MIXED, 0), {"a": "number", "r": "row", "x": "number", "y": "row", "z": "number"})
        self.assertEqual(kinds_of(MIXED, 1), {
            "n": "number", "p": "number", "q": "number", "s": "row", "t": "row", "u": "row", "v": "number"})
        self.assertEqual(kinds_of(MIXED, 2), {"r": "row"})
        self.assertEqual(kinds_of(program(function()), 0), {})

    def test_rising(self):
        body = let("e", ("be", ATOM), let("aa", ("be", ATOM), let("d", ("be", ATOM), let("b", ("be", ATOM)))))
        made = program(function(body, params=(("c", "row"), ("ab", "number"), ("a", "row"))))
        self.assertEqual(list(kinds_of(made, 0)), ["a", "aa", "ab", "b", "c", "d", "e"])
        for f in range(3):
            self.assertEqual(list(kinds_of(MIXED, f)), sorted(kinds_of(MIXED, f)))

    def test_each_time_a_new_dict(self):
        told = kinds_of(MIXED, 0)
        self.assertIs(type(told), dict)
        told["a"] = "row"
        told.pop("r")
        self.assertEqual(kinds_of(MIXED, 0)["a"], "number")
        self.assertIn("r", kinds_of(MIXED, 0))


class Refusals(unittest.TestCase):
    def calls(self):
        return [nodes_of, kinds_of, lambda program, f: ahead_of(program, f, 0)]

    def test_no_functions_number(self):
        for call in self.calls():
            for f in [-1, 3, 4, HUGE, -HUGE, True, False, Number(0), 0.0] + [
                    thing for thing in anything() if type(thing) is not int or not 0 <= thing < 3]:
                with self.assertRaises(BadQuestion) as told:
                    call(MIXED, f)
                self.assertIs(type(told.exception), BadQuestion)

    def test_no_nodes_number(self):
        for n in [-1, 9, 10, HUGE, True, False, Number(0), 0.0] + [
                thing for thing in anything() if type(thing) is not int or not 0 <= thing < 9]:
            with self.assertRaises(BadQuestion):
                ahead_of(MIXED, 0, n)
        for f, many in ((0, 9), (1, 6), (2, 1)):
            ahead_of(MIXED, f, many - 1)
            with self.assertRaises(BadQuestion):
                ahead_of(MIXED, f, many)

    def test_truths_right_behind_numbers(self):
        for number, truth in ((0, False), (1, True)):
            for call in self.calls():
                call(MIXED, number)
                with self.assertRaises(BadQuestion):
                    call(MIXED, truth)
            ahead_of(MIXED, 0, number)
            with self.assertRaises(BadQuestion):
                ahead_of(MIXED, 0, truth)

    def test_the_program_ahead_of_the_question(self):
        for call in self.calls() + [lambda program, f: program_text(program)]:
            for f in (0, 1, 2, -1, None, "f", True):
                with self.assertRaises(BadProgram) as told:
                    call(BAD, f)
                self.assertEqual(told.exception.place, 1)
        with self.assertRaises(BadProgram):
            ahead_of(BAD, 0, None)

    def test_of_anything(self):
        for thing in anything():
            for call in self.calls() + [lambda program, f: program_text(program)]:
                with self.assertRaises(BadProgram) as told:
                    call(thing, 0)
                self.assertIn(told.exception.place, (-1, 0))
                with self.assertRaises(BadProgram) as told:
                    call(((), (function(), thing)), thing)
                self.assertEqual(told.exception.place, 1)

    def test_nothing_handed_in_is_changed(self):
        kept = copy.deepcopy(MIXED)
        for f in range(3):
            nodes_of(MIXED, f)
            kinds_of(MIXED, f)
            ahead_of(MIXED, f, 0)
        program_text(MIXED)
        self.assertEqual(MIXED, kept)


if __name__ == "__main__":
    unittest.main()
