"""Point 6: inputs."""

import unittest

from strikehall.errors import BadInput, BadProgram
from strikehall.programs import need_program
from strikehall.runs import calls_of, need_inputs, run, steps_of
from tests.samples import HUGE, MIXED, Number, Pair, anything, function, numbers, program, rows

CALLS = [need_inputs, lambda made, inputs: run(made, inputs, 5), lambda made, inputs: steps_of(made, inputs, 5),
         lambda made, inputs: calls_of(made, inputs, 5)]


def of_params(params, given=()):
    return need_program(program(function(params=params), given=given))


class Inputs(unittest.TestCase):
    def taken(self, made, inputs):
        self.assertIs(need_inputs(made, inputs), inputs)
        for call in CALLS:
            call(made, inputs)

    def refused(self, made, inputs):
        for call in CALLS:
            with self.assertRaises(BadInput) as told:
                call(made, inputs)
            self.assertIs(type(told.exception), BadInput)

    def both(self, made, inputs, good):
        if good:
            self.taken(made, inputs)
        else:
            self.refused(made, inputs)

    def test_numbers(self):
        made = of_params(numbers("a"))
        for number in range(-12, 13):
            self.both(made, (number,), -9 <= number <= 9)
        for thing in (HUGE, -HUGE, True, False, None, "1", b"1", (1,), [1], (), {}, Number(1), "", "a"):
            self.refused(made, (thing,))

    def test_rows(self):
        made = of_params(rows("r"))
        for many in range(8):
            self.both(made, ((0,) * many,), many <= 5)
            self.both(made, ((9, -9) * many,), many <= 2)
        for number in range(-12, 13):
            self.both(made, ((0, number),), -9 <= number <= 9)
            self.both(made, ((number, 0, 0, 0, 0),), -9 <= number <= 9)
        for thing in (HUGE, True, False, None, "1", (1,), (), [1], Number(1)):
            self.refused(made, ((thing,),))
            self.refused(made, ((0, thing),))
        for thing in (0, 1, [], [0], "", "0", b"", None, {}, set(), range(2), Pair((0,)), ((0,),), (0,) * 10 ** 5):
            self.refused(made, (thing,))

    def test_as_many_as_params(self):
        for params, inputs in [((), ()), (numbers("a"), (1,)), (numbers("a") + rows("r"), (1, (2,))),
                               (rows("r") + numbers("a", "b"), ((), 1, 2)), (rows("r", "s"), ((1,), (2,)))]:
            made = of_params(params)
            self.taken(made, inputs)
            for other in (inputs + (0,), inputs + ((),), inputs[:-1] if inputs else ((),), (inputs,), list(inputs),
                          Pair(inputs), None):
                self.refused(made, other)

    def test_of_the_kinds_of_params(self):
        made = of_params(numbers("a") + rows("r"))
        self.taken(made, (1, (2,)))
        for inputs in (((2,), 1), (1, 2), ((1,), (2,)), (1,), ((2,),), (1, (2,), 3), ()):
            self.refused(made, inputs)

    def test_of_the_first_function(self):
        made = need_program(program(function(name="m", params=numbers("a")), function(params=rows("r", "s"))))
        self.taken(made, (1,))
        self.refused(made, ((1,), (2,)))

    def test_anything(self):
        made = of_params(numbers("a") + rows("r"))
        for thing in anything():
            small = type(thing) is int and -9 <= thing <= 9
            self.refused(made, thing)
            self.both(made, (thing, ()), small)
            self.both(made, (1, thing), type(thing) is tuple and thing == ())
            self.both(made, (1, (thing,)), small)

    def test_truths_right_behind_numbers(self):
        made = of_params(numbers("a") + rows("r"))
        for number, truth in ((0, False), (1, True)):
            self.taken(made, (number, (number,)))
            self.refused(made, (truth, (number,)))
            self.refused(made, (number, (truth,)))
            self.taken(made, (number, (number,)))


class Given(unittest.TestCase):
    both, taken, refused = Inputs.both, Inputs.taken, Inputs.refused

    def test_of_numbers(self):
        for most in range(-4, 5):
            made = of_params(numbers("a", "b"), ((("a", "b", most)),))
            for one in range(-9, 10):
                for other in range(-9, 10):
                    self.both(made, (one, other), one <= other + most)

    def test_of_nought(self):
        for most in range(-4, 5):
            least, greatest = of_params(numbers("a"), (("", "a", most),)), of_params(numbers("a"), (("a", "", most),))
            for number in range(-9, 10):
                self.both(least, (number,), 0 <= number + most)
                self.both(greatest, (number,), number <= most)

    def test_of_how_many_a_row_has(self):
        for most in range(-4, 5):
            made = of_params(numbers("a") + rows("r"), (("a", "#r", most),))
            other = of_params(numbers("a") + rows("r"), (("#r", "a", most),))
            for many in range(6):
                for number in range(-9, 10):
                    self.both(made, (number, (-9,) * many), number <= many + most)
                    self.both(other, (number, (9,) * many), many <= number + most)

    def test_of_rows(self):
        made = of_params(rows("r", "s"), (("#r", "#s", -1),))
        for many in range(6):
            for more in range(6):
                self.both(made, ((0,) * many, (0,) * more), many <= more - 1)

    def test_all_of_them(self):
        made = of_params(numbers("a", "b"), (("", "a", 0), ("a", "b", -1), ("b", "", 4), ("a", "", 2)))
        for one in range(-9, 10):
            for other in range(-9, 10):
                self.both(made, (one, other), 0 <= one <= 2 and one < other <= 4)

    def test_that_bars_all(self):
        made = of_params(numbers("a") + rows("r"), (("", "a", -4), ("a", "", 3)))
        for number in range(-9, 10):
            self.refused(made, (number, ()))
        made = of_params(rows("r"), (("#r", "", -1),))
        for many in range(6):
            self.refused(made, ((0,) * many,))

    def test_of_what_has_the_wrong_kind(self):
        made = of_params(numbers("a") + rows("r"), (("a", "#r", 0),))
        for inputs in ((1, 2), ((1,), 2), (None, None), (True, (1,)), ("1", "1"), (1, (True,)), (1, [1])):
            self.refused(made, inputs)


class Order(unittest.TestCase):
    def test_the_program_ahead_of_inputs(self):
        bad = program(function(), function(("give",)))
        for thing in anything() + [()]:
            for call in CALLS:
                with self.assertRaises(BadProgram) as told:
                    call(bad, thing)
                self.assertEqual(told.exception.place, 1)
        for thing in anything():
            for call in CALLS:
                with self.assertRaises(BadProgram) as told:
                    call(thing, (thing,))
                self.assertIn(told.exception.place, (-1, 0))

    def test_nothing_is_changed(self):
        inputs = [1, [1, 2]]
        with self.assertRaises(BadInput):
            need_inputs(MIXED, inputs)
        self.assertEqual(inputs, [1, [1, 2]])


if __name__ == "__main__":
    unittest.main()
