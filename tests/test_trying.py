"""Points 6, 40 and 41: weights, inputs tried and their order, first faults, all faults, first breaks."""

import random
import time
import unittest

from strikehall.errors import BadProgram, BadQuestion, BadSaying
from strikehall.faults import is_broken
from strikehall.programs import need_program
from strikehall.runs import need_inputs, run
from strikehall.shown import open_nodes
from strikehall.trying import all_faults, first_break, first_fault, inputs_tried, weight_of
from strikehall.ways import end_terms, entry_terms
from tests.making import Maker
from tests.naive_tries import broken, tried, weight
from tests.samples import HUGE, MIXED, Number, Text, anything, chain, function, numbers, program, rows
from tests.test_facts import by_text

SHORT = 3.0


def of(params, given=()):
    return need_program(program(function(params=params), given=given))


class Weights(unittest.TestCase):
    def test_by_hand(self):
        for inputs, told in [((), 0), ((0,), 0), ((3,), 3), ((-3,), 3), (((),), 0), (((0,),), 1), (((0, 0, 0),), 3),
                             (((-2,),), 3), ((1, -1), 2),
                             ((2, (1, -1), ()), 6), ((9, (9, 9, 9, 9, 9), -9), 68), (((), (), ()), 0)]:
            self.assertEqual(weight_of(inputs), told)

    def test_of_inputs_tried(self):
        for inputs in inputs_tried(of(numbers("n") + rows("r", "s")), 4):
            self.assertEqual(weight_of(inputs), sum(weight(worth) for worth in inputs))


class Tried(unittest.TestCase):
    def test_of_no_params(self):
        for most in range(5):
            self.assertEqual(inputs_tried(of(()), most), [()])

    def test_of_a_number(self):
        told = [(0,), (-1,), (1,), (-2,), (2,), (-3,), (3,), (-4,), (4,)]
        for most in range(5):
            self.assertEqual(inputs_tried(of(numbers("n")), most), told[:1 + 2 * most])

    def test_of_a_row(self):
        made = of(rows("r"))
        self.assertEqual(inputs_tried(made, 0), [((),)])
        self.assertEqual(inputs_tried(made, 1), [((),), ((0,),)])
        self.assertEqual(inputs_tried(made, 2), [((),), ((0,),), ((-1,),), ((0, 0),), ((1,),)])
        self.assertEqual(inputs_tried(made, 3)[5:], [((-2,),), ((-1, 0),), ((0, -1),), ((0, 0, 0),), ((0, 1),), ((1, 0),), ((2,),)])
        self.assertEqual([len(inputs_tried(made, most)) for most in range(5)], [1, 2, 5, 12, 29])

    def test_of_a_number_and_a_row_by_weight_then_as_tuples(self):
        self.assertEqual(inputs_tried(of(numbers("n") + rows("r")), 2), [
            (0, ()), (-1, ()), (0, (0,)), (1, ()), (-2, ()), (-1, (0,)), (0, (-1,)), (0, (0, 0)), (0, (1,)), (1, (0,)), (2, ())])
        self.assertEqual(inputs_tried(of(rows("r") + numbers("n")), 1), [((), 0), ((), -1), ((), 1), ((0,), 0)])

    def test_three_params_as_by_the_words_of_the_document(self):
        for params in (numbers("a", "b", "c"), numbers("a", "b") + rows("r"), rows("r") + numbers("a") + rows("s"),
                       rows("r", "s", "t")):
            made = of(params)
            for most in range(5 if "row" not in dict(params[1:]).values() else 4):
                self.assertEqual(inputs_tried(made, most), tried(made, most))
        self.assertEqual([len(inputs_tried(of(rows("r", "s", "t")), most)) for most in range(5)], [1, 4, 16, 56, 185])

    def test_by_what_is_given(self):
        params = numbers("n") + rows("r")
        self.assertEqual(inputs_tried(of(params, given=(("", "n", -1), ("n", "#r", 0))), 3),
                         [(1, (0,)), (1, (-1,)), (1, (0, 0)), (1, (1,))])
        self.assertEqual(inputs_tried(of(numbers("n"), given=(("", "n", -1), ("n", "", 0))), 4), [])
        self.assertEqual(inputs_tried(of(numbers("n"), given=(("", "n", -3),)), 2), [])
        self.assertEqual(inputs_tried(of(numbers("n"), given=(("", "n", -3),)), 4), [(3,), (4,)])

    def test_all_are_inputs(self):
        chance = random.Random(71)
        for seed in range(150):
            made = Maker(seed).program()
            most = chance.randint(0, 3)
            told = inputs_tried(made, most)
            self.assertEqual(told, tried(made, most))
            for inputs in told:
                self.assertIs(need_inputs(made, inputs), inputs)

    def test_a_new_list_each_time(self):
        made = of(numbers("n"))
        told = inputs_tried(made, 1)
        self.assertIs(type(told), list)
        told.clear()
        self.assertEqual(inputs_tried(made, 1), [(0,), (-1,), (1,)])


class Faults(unittest.TestCase):
    MADE = by_text("fn main number n:number r:row", "if n 0", " let x part r 1", " must x n", " give x", "else", " let y call f n",
                   " let s cut r y", " give y", "fn f number a:number", "must a 2", "give a")

    def test_the_first_one(self):
        self.assertEqual(first_fault(self.MADE, 0, 300), ((0, ()), ("fault", "part", 0, 1)))
        for most in range(5):
            self.assertEqual(first_fault(self.MADE, most, 300), ((0, ()), ("fault", "part", 0, 1)))

    def test_just_by_enough_weight(self):
        made = by_text("given 0 n 0", "fn main number n:number", "must n 2", "give n")
        for most in range(5):
            self.assertEqual(first_fault(made, most, 300), None if most < 3 else ((3,), ("fault", "must", 0, 0)))
            self.assertEqual(all_faults(made, most, 300), [] if most < 3 else [(0, 0, "must", (3,))])

    def test_none(self):
        made = by_text("fn main number n:number", "give n")
        self.assertIs(first_fault(made, 4, 300), None)
        self.assertEqual(all_faults(made, 4, 300), [])

    def test_all_of_them(self):
        told = all_faults(self.MADE, 4, 300)
        self.assertEqual(told, [(0, 1, "part", (0, ())), (0, 2, "must", (-1, (0, 0))), (0, 5, "cut", (1, ())),
                                (1, 0, "must", (3, ()))])
        self.assertEqual(all_faults(self.MADE, 2, 300), [(0, 1, "part", (0, ())), (0, 5, "cut", (1, ()))])
        self.assertEqual(all_faults(self.MADE, 0, 300), [(0, 1, "part", (0, ()))])

    def test_by_limits(self):
        for limit, told in ((0, None), (1, None), (2, ((0, ()), ("fault", "part", 0, 1))), (3, ((0, ()), ("fault", "part", 0, 1)))):
            self.assertEqual(first_fault(self.MADE, 4, limit), told)
        self.assertEqual([len(all_faults(self.MADE, 4, limit)) for limit in range(7)], [0, 0, 1, 3, 3, 4, 4])
        made = by_text("fn main number n:number", "let x call f n", "give x", "fn f number a:number", "let y call f a", "give y")
        for limit in (0, 5, 300):
            self.assertIs(first_fault(made, 4, limit), None)

    def test_as_runs_of_the_inputs_tried_one_by_one(self):
        chance = random.Random(72)
        found = 0
        for seed in range(300):
            made = Maker(seed).program()
            most, limit = chance.randint(0, 3), chance.choice((300, 300, chance.randint(0, 12)))
            ends = [(inputs, run(made, inputs, limit)) for inputs in tried(made, most)]
            faults = [(inputs, end) for inputs, end in ends if end[0] == "fault"]
            self.assertEqual(first_fault(made, most, limit), faults[0] if faults else None)
            firsts = {}
            for inputs, (_, word, f, n) in faults:
                firsts.setdefault((f, n, word), inputs)
            told = all_faults(made, most, limit)
            self.assertEqual(told, sorted((*place, inputs) for place, inputs in firsts.items()))
            self.assertLessEqual({(f, n) for f, n, _, _ in told}, set(open_nodes(made)))
            found += len(told) > 0
        self.assertGreater(found, 50)

    def test_a_new_list_each_time(self):
        told = all_faults(self.MADE, 0, 300)
        self.assertIs(type(told), list)
        told.clear()
        self.assertEqual(len(all_faults(self.MADE, 0, 300)), 1)


class Breaks(unittest.TestCase):
    MADE = by_text("fn main number n:number", "let x call f n", "give x", "fn f number a:number", "if a 1", " give a", "else",
                   " let y call f a-2", " give y")

    def test_by_hand(self):
        for f, side, saying, told in [
                (0, "entry", ("n", "", -1), (0,)), (0, "entry", ("n", "", 0), (1,)), (0, "entry", ("", "n", 0), (-1,)),
                (0, "entry", ("n", "", 3), (4,)), (0, "entry", ("n", "", 4), None), (1, "entry", ("a", "", 2), (3,)),
                (1, "end", ("out", "", 0), (1,)), (1, "end", ("out", "", 1), None), (1, "end", ("a", "out", 0), (2,)),
                (1, "end", ("a", "out", 2), (4,)), (0, "end", ("out", "n", 0), None), (1, "end", ("", "out", 3), (-4,)),
                (0, "end", ("out", "n", -1), (0,)), (1, "end", ("out", "", -HUGE), (0,)), (1, "end", ("out", "", HUGE), None)]:
            self.assertEqual(first_break(self.MADE, f, side, saying, 4, 300), told, (f, side, saying))

    def test_by_weights_and_limits(self):
        for most in range(5):
            self.assertEqual(first_break(self.MADE, 1, "entry", ("a", "", 2), most, 300), None if most < 3 else (3,))
        # By 2 the run is: main 0, f 0, f 2, f 0, f 1, f 3, main 1.
        for limit in range(9):
            self.assertEqual(first_break(self.MADE, 0, "entry", ("n", "", 1), 4, limit), (2,))
            self.assertEqual(first_break(self.MADE, 1, "entry", ("a", "", 1), 4, limit), (2,) if limit >= 1 else None)
            self.assertEqual(first_break(self.MADE, 1, "end", ("a", "out", 1), 2, limit), (2,) if limit >= 6 else None)
            self.assertEqual(first_break(self.MADE, 0, "end", ("n", "out", 1), 2, limit), (2,) if limit >= 7 else None)

    def test_as_by_the_words_of_the_document(self):
        chance = random.Random(73)
        found = 0
        for seed in range(400):
            made = Maker(seed).program()
            most, limit = chance.randint(0, 2), chance.choice((300, 300, chance.randint(0, 12)))
            f, side = chance.randrange(len(made[1])), chance.choice(("entry", "end"))
            terms = (entry_terms if side == "entry" else end_terms)(made, f)
            if len(terms) == 1:
                continue
            saying = (*chance.sample(terms, 2), chance.randint(-5, 5))
            told = [inputs for inputs in tried(made, most) if broken(made, inputs, limit, f, side, saying)]
            self.assertEqual(first_break(made, f, side, saying, most, limit), told[0] if told else None)
            found += bool(told)
            if told:
                self.assertIs(is_broken(made, told[0], limit, f, side, saying), True)
        self.assertGreater(found, 20)


class Great(unittest.TestCase):
    def test_in_a_short_time(self):
        rest = ["fn f number a:row b:row c:row", "let d long a", "if d 0", " let e call f a b c", " give e", "else",
                " let g call f b c a",
                " give g"]
        made = by_text("fn main number a:row b:row c:row", "let x call f a b c", "give x", *rest)
        for call in (lambda: inputs_tried(made, 4), lambda: first_fault(made, 4, 300), lambda: all_faults(made, 4, 300),
                     lambda: first_break(made, 1, "end", ("", "out", 0), 4, 300),
                     lambda: first_break(made, 1, "entry", ("", "#a", 0), 4, 300)):
            start = time.process_time()
            call()
            self.assertLess(time.process_time() - start, SHORT)


class Refused(unittest.TestCase):
    SAYING = ("n", "", 0)

    def calls(self, made, most, limit):
        return [lambda: first_fault(made, most, limit), lambda: all_faults(made, most, limit),
                lambda: first_break(made, 0, "entry", self.SAYING, most, limit)]

    def test_of_no_program(self):
        for thing in anything():
            for call in self.calls(thing, None, None) + [lambda: inputs_tried(thing, None)]:
                with self.assertRaises(BadProgram):
                    call()
            with self.assertRaises(BadProgram):
                first_break(thing, None, None, None, None, None)
        with self.assertRaises(BadProgram) as told:
            inputs_tried(program(function(name="m"), function(chain(13))), 4)
        self.assertEqual(told.exception.place, 1)

    def test_of_no_weight_and_no_limit(self):
        made = of(numbers("n"))
        bad = [-1, 5, 6, HUGE, -HUGE, True, False, Number(2), None, "2", (2,)] + anything()
        for most in bad:
            if type(most) is int and 0 <= most <= 4:
                continue
            for call in self.calls(made, most, 300) + self.calls(made, most, None) + [lambda: inputs_tried(made, most)]:
                with self.assertRaises(BadQuestion):
                    call()
        for limit in [301] + bad:
            if type(limit) is int and 0 <= limit <= 300:
                continue
            for call in self.calls(made, 2, limit):
                with self.assertRaises(BadQuestion):
                    call()

    def test_what_is_asked_about_ahead_of_the_weight(self):
        made = of(numbers("n"))
        for f, side, saying in [(1, "entry", None), (True, "entry", None), (0, "side", None), (0, None, None),
                                (0, Text("end"), None)]:
            with self.assertRaises(BadQuestion):
                first_break(made, f, side, saying, 4, 300)
        for saying in [("n", "n", 0), ("out", "", 0), ("n", "", True), None, ("", "", 0)] + anything():
            for most, limit in ((4, 300), (5, 300), (4, 301), (None, None)):
                with self.assertRaises(BadSaying):
                    first_break(made, 0, "entry", saying, most, limit)

    def test_truths_right_behind_numbers(self):
        made = of(numbers("n"))
        for number, truth in ((0, False), (1, True)):
            for call in self.calls(made, number, number):
                call()
            for call in self.calls(made, truth, number) + self.calls(made, number, truth):
                with self.assertRaises(BadQuestion):
                    call()
            inputs_tried(made, number)
            with self.assertRaises(BadQuestion):
                inputs_tried(made, truth)
            first_break(made, 0, "entry", ("n", "", number), 0, 0)
            with self.assertRaises(BadSaying):
                first_break(made, 0, "entry", ("n", "", truth), 0, 0)

    def test_mixed(self):
        self.assertEqual(inputs_tried(MIXED, 1), [])
        self.assertEqual(inputs_tried(MIXED, 4), tried(MIXED, 4))


if __name__ == "__main__":
    unittest.main()
