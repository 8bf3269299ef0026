"""Points 6, 10 and 41: the nodes come to, what is broken in a run; point 60: ends and inputs as texts."""

import copy
import random
import unittest

from strikehall.errors import BadInput, BadProgram, BadQuestion, BadSaying
from strikehall.faults import came_to, end_text, inputs_text, is_broken
from strikehall.programs import need_program
from strikehall.runs import run, steps_of
from strikehall.strikes import standing
from strikehall.ways import end_terms, entry_terms
from tests.making import Maker
from tests.naive import Runner
from tests.naive_tries import broken
from tests.samples import GIVE, HUGE, MIXED, Number, Pair, Text, anything, chain, function, let, numbers, program, rows
from tests.test_facts import by_text
from tests.test_runs import some_inputs

DOWN = by_text("fn main number n:number", "let x call f n", "give x", "fn f number n:number", "if n 0", " give 0", "else",
               " let m call f n-1", " must m 1", " give m+1")


class Came(unittest.TestCase):
    def test_in_order(self):
        self.assertEqual(came_to(DOWN, (0,), 300), [(0, 0), (1, 0), (1, 1), (0, 1)])
        self.assertEqual(came_to(DOWN, (1,), 300), [(0, 0), (1, 0), (1, 2), (1, 0), (1, 1), (1, 3), (1, 4), (0, 1)])

    def test_up_to_a_fault(self):
        told = came_to(DOWN, (9,), 300)
        self.assertEqual(run(DOWN, (9,), 300), ("fault", "must", 1, 3))
        self.assertEqual(told[-1], (1, 3))
        self.assertEqual(len(told), steps_of(DOWN, (9,), 300))

    def test_each_limit_about_the_runs_steps(self):
        for n in range(-1, 10):
            whole = came_to(DOWN, (n,), 300)
            many = steps_of(DOWN, (n,), 300)
            self.assertEqual(len(whole), many)
            for limit in (0, 1, 2, many - 1, many, many + 1, 300):
                self.assertEqual(came_to(DOWN, (n,), limit), whole[:limit])
                self.assertEqual(len(came_to(DOWN, (n,), limit)), steps_of(DOWN, (n,), limit))

    def test_without_an_end(self):
        made = by_text("fn main number", "let x call f", "give x", "fn f number", "let y call f", "give y")
        for limit in (0, 1, 2, 299, 300):
            self.assertEqual(came_to(made, (), limit), ([(0, 0)] + [(1, 0)] * 299)[:limit])

    def test_a_new_list_each_time(self):
        told = came_to(DOWN, (0,), 300)
        self.assertIs(type(told), list)
        told.clear()
        self.assertEqual(len(came_to(DOWN, (0,), 300)), 4)

    def test_as_by_the_words_of_the_document(self):
        chance = random.Random(61)
        for seed in range(500):
            made = Maker(seed).program()
            inputs = some_inputs(made, chance)
            if inputs is not None:
                limit = chance.choice((300, 300, chance.randint(0, 30)))
                self.assertEqual(came_to(made, inputs, limit), Runner(made, inputs, limit).came)


class Broken(unittest.TestCase):
    def test_at_calls_by_what_is_handed_on(self):
        # f is called with 3, 2, 1, 0.
        for most in range(-5, 6):
            self.assertIs(is_broken(DOWN, (3,), 300, 1, "entry", ("n", "", most)), most < 3)
            self.assertIs(is_broken(DOWN, (3,), 300, 1, "entry", ("", "n", most)), most < 0)

    def test_of_the_inputs_for_the_first_function(self):
        for n in range(-9, 10):
            for most in range(-10, 11):
                for limit in (0, 1, 300):
                    self.assertIs(is_broken(DOWN, (n,), limit, 0, "entry", ("n", "", most)), n > most)
                    self.assertIs(is_broken(DOWN, (n,), limit, 0, "entry", ("", "n", most)), 0 > n + most)

    def test_of_rows_by_how_many_they_have(self):
        made = by_text("fn main row n:number r:row", "let s cut r n", "let t call f s", "give t", "fn f row u:row", "give u")
        for n in range(4):
            for most in range(-4, 5):
                self.assertIs(is_broken(made, (n, (9, 9, 9)), 300, 0, "entry", ("#r", "n", most)), 3 > n + most)
                self.assertIs(is_broken(made, (n, (9, 9, 9)), 300, 1, "entry", ("#u", "", most)), n > most)
                self.assertIs(is_broken(made, (n, (9, 9, 9)), 300, 0, "end", ("#r", "#out", most)), 3 > n + most)
                self.assertIs(is_broken(made, (n, (9, 9, 9)), 300, 1, "end", ("#out", "#u", most)), 0 > most)

    def test_at_gives_by_what_was_handed_on_and_is_given(self):
        # Of f: 0 by 0, 1 by 1, 2 by 2.
        for most in range(-3, 4):
            self.assertIs(is_broken(DOWN, (2,), 300, 1, "end", ("out", "n", most)), most < 0)
            self.assertIs(is_broken(DOWN, (2,), 300, 1, "end", ("out", "", most)), most < 2)
            self.assertIs(is_broken(DOWN, (2,), 300, 1, "end", ("", "n", most)), most < 0)
            self.assertIs(is_broken(DOWN, (2,), 300, 0, "end", ("n", "out", most)), most < 0)

    def test_just_at_gives_that_are_come_to(self):
        # By 3 the run faults behind two gives of f, of 0 and 1 and 2, and main never gives.
        self.assertEqual(run(DOWN, (4,), 300), ("fault", "must", 1, 3))
        self.assertIs(is_broken(DOWN, (4,), 300, 0, "end", ("", "out", -9)), False)
        self.assertIs(is_broken(DOWN, (4,), 300, 1, "end", ("out", "", 1)), True)
        self.assertIs(is_broken(DOWN, (4,), 300, 1, "end", ("out", "", 2)), False)
        self.assertIs(is_broken(DOWN, (4,), 300, 1, "end", ("n", "", 2)), False)
        self.assertIs(is_broken(DOWN, (4,), 300, 1, "entry", ("n", "", 3)), True)

    def test_where_the_run_ends_by_the_limit(self):
        # Node by node: main 0, f 0, f 2, f 0, f 1, f 3, f 4, main 1.
        for limit in range(10):
            self.assertIs(is_broken(DOWN, (1,), limit, 1, "entry", ("", "n", -1)), limit >= 3)
            self.assertIs(is_broken(DOWN, (1,), limit, 1, "entry", ("n", "", 0)), limit >= 1)
            self.assertIs(is_broken(DOWN, (1,), limit, 1, "end", ("", "out", -1)), limit >= 5)
            self.assertIs(is_broken(DOWN, (1,), limit, 1, "end", ("out", "", 0)), limit >= 7)
            self.assertIs(is_broken(DOWN, (1,), limit, 0, "end", ("out", "", 0)), limit >= 8)

    def test_where_the_run_ends_by_a_fault_in_what_is_called(self):
        made = by_text("fn main number n:number", "let x call f n+1", "give x", "fn f number a:number", "must 1 0", "give a")
        self.assertIs(is_broken(made, (5,), 300, 1, "entry", ("a", "", 5)), True)
        self.assertIs(is_broken(made, (5,), 300, 1, "entry", ("a", "", 6)), False)
        self.assertIs(is_broken(made, (5,), 300, 1, "end", ("a", "", 5)), False)

    def test_of_functions_that_are_not_come_to(self):
        made = by_text("fn main number", "give 0", "fn f number a:number", "give a")
        for saying in (("", "a", -HUGE), ("a", "", -HUGE)):
            self.assertIs(is_broken(made, (), 300, 1, "entry", saying), False)
            self.assertIs(is_broken(made, (), 300, 1, "end", saying), False)

    def test_great_numbers(self):
        for most in (HUGE, -HUGE):
            self.assertIs(is_broken(DOWN, (2,), 300, 1, "end", ("out", "n", most)), most < 0)
        made = by_text("fn main number n:number", "let x call f n", "give x", "fn f number a:number", "let b sum a a",
                       "let c sum b b",
                       "let d call f c", "give d")
        self.assertIs(is_broken(made, (1,), 300, 1, "entry", ("a", "", 10 ** 40)), True)
        self.assertIs(is_broken(made, (1,), 300, 1, "entry", ("a", "", 10 ** 80)), False)

    def test_what_stands_is_never_broken(self):
        chance = random.Random(62)
        for seed in range(200):
            made = Maker(seed).program()
            inputs = some_inputs(made, chance)
            if inputs is None:
                continue
            for f, sides in enumerate(standing(made)):
                for side, sayings in zip(("entry", "end"), sides):
                    for saying in sayings[::7]:
                        self.assertIs(is_broken(made, inputs, 300, f, side, saying), False)

    def test_as_by_the_words_of_the_document(self):
        chance = random.Random(63)
        many = {True: 0, False: 0}
        for seed in range(800):
            made = Maker(seed).program()
            inputs = some_inputs(made, chance)
            if inputs is None:
                continue
            for f in range(len(made[1])):
                for side, terms in (("entry", entry_terms(made, f)), ("end", end_terms(made, f))):
                    if len(terms) > 1:
                        saying = (*chance.sample(terms, 2), chance.randint(-6, 6))
                        limit = chance.choice((300, chance.randint(0, 30)))
                        told = is_broken(made, inputs, limit, f, side, saying)
                        self.assertIs(told, broken(made, inputs, limit, f, side, saying))
                        many[told] += 1
        self.assertGreater(min(many.values()), 300)


class Texts(unittest.TestCase):
    def test_inputs(self):
        for inputs, told in [((), "nothing"), ((0,), "0"), ((-9, 9), "-9 9"), (((),), "[]"), (((1,),), "[1]"),
                             (((1, -2, 0),), "[1,-2,0]"),
                             ((3, (), (-4, 5)), "3 [] [-4,5]"), (((), ()), "[] []")]:
            self.assertEqual(inputs_text(inputs), told)

    def test_ends(self):
        for end, told in [(("give", 5), "give 5"), (("give", -5), "give -5"), (("give", ()), "give []"),
                          (("give", (1, -2)), "give [1,-2]"),
                          (("fault", "part", 0, 2), "fault part main 2"), (("fault", "cut", 1, 0), "fault cut g 0"),
                          (("fault", "must", 2, 11), "fault must h 11"), (("limit",), "limit"),
                          (("give", 2 ** 300), "give " + str(2 ** 300))]:
            self.assertEqual(end_text(MIXED, end), told)

    def test_of_runs(self):
        self.assertEqual(end_text(DOWN, run(DOWN, (9,), 300)), "fault must f 3")
        self.assertEqual(end_text(DOWN, run(DOWN, (2,), 300)), "give 2")
        self.assertEqual(end_text(DOWN, run(DOWN, (2,), 1)), "limit")
        made = by_text("fn main row r:row", "give r")
        self.assertEqual(end_text(made, run(made, ((1, 2),), 300)), "give [1,2]")

    def test_of_no_program(self):
        for thing in anything():
            with self.assertRaises(BadProgram):
                end_text(thing, None)


class Refused(unittest.TestCase):
    SAYING = ("a", "", 0)
    GOOD = (1, (4,))

    def test_of_no_program(self):
        for thing in anything():
            with self.assertRaises(BadProgram):
                came_to(thing, None, None)
            with self.assertRaises(BadProgram):
                is_broken(thing, None, None, None, None, None)
        with self.assertRaises(BadProgram) as told:
            came_to(program(function(name="m"), function(chain(13))), (), 300)
        self.assertEqual(told.exception.place, 1)

    def test_inputs_ahead_of_limits(self):
        for inputs in [(), (1,), (1, 2), (True, ()), (10, ()), (0, (1,)), (1, ()), [1, (1, 2, 3, 4, 5)]] + anything():
            with self.assertRaises(BadInput):
                came_to(MIXED, inputs, None)
            with self.assertRaises(BadInput):
                is_broken(MIXED, inputs, None, None, None, None)

    def test_limits_ahead_of_all_that_is_behind(self):
        made = by_text("fn main number n:number", "give n")
        for limit in [-1, 301, True, False, Number(3), HUGE, None, "3", (3,)] + anything():
            if type(limit) is int and 0 <= limit <= 300:
                continue
            with self.assertRaises(BadQuestion):
                came_to(made, (1,), limit)
            with self.assertRaises(BadQuestion):
                is_broken(made, (1,), limit, 0, "entry", ("x", "y", 0))

    def test_functions_and_sides_ahead_of_sayings(self):
        for f in [-1, 2, True, False, HUGE, Number(1), None, "f", "1", (1,)] + anything():
            if type(f) is not int or not 0 <= f < 2:
                with self.assertRaises(BadQuestion):
                    is_broken(DOWN, (1,), 300, f, "entry", None)
        for side in ["", "Entry", "END", "entry ", "out", 0, 1, None, ("entry",), ["end"], Text("end"), b"end"] + anything():
            with self.assertRaises(BadQuestion):
                is_broken(DOWN, (1,), 300, 1, side, None)

    def test_sayings_of_its_terms_there(self):
        for side, bad in (("entry", ("out", "n", 0)), ("entry", ("n", "out", 0)), ("end", ("#out", "n", 0))):
            with self.assertRaises(BadSaying):
                is_broken(DOWN, (1,), 300, 1, side, bad)
        for saying in [("n", "n", 0), ("", "", -1), ("", "", 0), ("n", "m", 0), ("#n", "", 0), ("n", "", True),
                       ("n", "", None), ("n", ""),
                       ("n", "", 0, 0), ["n", "", 0], Pair(("n", "", 0)), (Text("n"), "", 0), ("n", "", Number(0)), (None, "n", 0),
                       ([], "n", 0)] + anything():
            for side in ("entry", "end"):
                with self.assertRaises(BadSaying):
                    is_broken(DOWN, (1,), 300, 1, side, saying)

    def test_truths_right_behind_numbers(self):
        for number, truth in ((0, False), (1, True)):
            is_broken(DOWN, (number,), number, number, "entry", ("n", "", number))
            with self.assertRaises(BadInput):
                is_broken(DOWN, (truth,), number, number, "entry", ("n", "", number))
            with self.assertRaises(BadQuestion):
                is_broken(DOWN, (number,), truth, number, "entry", ("n", "", number))
            with self.assertRaises(BadQuestion):
                is_broken(DOWN, (number,), number, truth, "entry", ("n", "", number))
            with self.assertRaises(BadSaying):
                is_broken(DOWN, (number,), number, number, "entry", ("n", "", truth))
            came_to(DOWN, (number,), number)
            with self.assertRaises(BadQuestion):
                came_to(DOWN, (number,), truth)

    def test_nothing_handed_in_is_changed(self):
        made = need_program(program(function(let("x", ("long", "r")), params=numbers("n") + rows("r"))))
        inputs = (1, (2, 3))
        kept = copy.deepcopy((made, inputs))
        came_to(made, inputs, 300)
        is_broken(made, inputs, 300, 0, "end", ("n", "out", 0))
        self.assertEqual((made, inputs), kept)
        self.assertEqual(made[1][0][3][3], GIVE)


if __name__ == "__main__":
    unittest.main()
