"""Point 6: runs, steps, ends, faults, the limit."""

import copy
import random
import unittest

from strikehall.errors import BadInput, BadProgram, BadQuestion
from strikehall.programs import need_program
from strikehall.runs import calls_of, run, steps_of
from strikehall.texts import read_program
from tests.making import Maker
from tests.naive import Runner
from tests.samples import (
    ATOM, GIVE, HUGE, Number, anything, at, chain, function, let, numbers, program, row, rows)

NUMBER_AND_ROW = numbers("n") + rows("r")


def of(body, params=NUMBER_AND_ROW, out="number", others=()):
    return need_program(program(function(body, name="main", params=params, out=out), *others))


def by_text(*rows_of_text):
    return read_program("\n".join(rows_of_text))


class Ends(unittest.TestCase):
    def end(self, body, *inputs, out="number"):
        return run(of(body, out=out), inputs, 300)

    def test_give(self):
        for number in range(-9, 10):
            self.assertEqual(self.end(("give", at("n")), number, ()), ("give", number))
            for more in range(-4, 5):
                self.assertEqual(self.end(("give", at("n", more)), number, ()), ("give", number + more))
                self.assertEqual(self.end(("give", ("num", more)), number, ()), ("give", more))
        for given in ((), (1,), (1, -2, 3, -4, 9)):
            self.assertEqual(self.end(("give", row("r")), 0, given, out="row"), ("give", given))

    def test_be_and_sum(self):
        self.assertEqual(self.end(let("x", ("be", at("n", 2)), ("give", at("x", 1))), 3, ()), ("give", 6))
        self.assertEqual(self.end(let("x", ("be", ("num", -4)), ("give", at("x"))), 3, ()), ("give", -4))
        for one, other, told in [(at("n", 1), at("n", -4), 3), (at("n"), ("num", 4), 7), (("num", -1), at("n", 2), 4),
                                 (("num", 3), ("num", 4), 7)]:
            self.assertEqual(self.end(let("x", ("sum", one, other), ("give", at("x"))), 3, ()), ("give", told))

    def test_long(self):
        for many in range(6):
            self.assertEqual(self.end(let("x", ("long", "r"), ("give", at("x"))), 0, (7,) * many), ("give", many))

    def test_part_at_each_place(self):
        part = let("x", ("part", "r", at("n")), ("give", at("x")))
        for many in range(6):
            given = tuple(range(4, 4 + many))
            for place in range(-9, 10):
                told = ("give", given[place]) if 0 <= place < many else ("fault", "part", 0, 0)
                self.assertEqual(self.end(part, place, given), told, (place, given))

    def test_with_at_each_place(self):
        body = let("s", ("with", "r", at("n"), at("n", 4)), ("give", row("s")))
        for many in range(6):
            given = tuple(range(-9, -9 + many))
            for place in range(-9, 10):
                told = ("fault", "part", 0, 0)
                if 0 <= place < many:
                    told = ("give", given[:place] + (place + 4,) + given[place + 1:])
                self.assertEqual(self.end(body, place, given, out="row"), told)

    def test_cut_by_each_number(self):
        body = let("s", ("cut", "r", at("n")), ("give", row("s")))
        for many in range(6):
            given = tuple(range(many))
            for number in range(-9, 10):
                told = ("give", given[:number]) if 0 <= number <= many else ("fault", "cut", 0, 0)
                self.assertEqual(self.end(body, number, given, out="row"), told)

    def test_with_and_cut_leave_their_row(self):
        given = (1, 2, 3)
        for right in (("with", "r", ATOM, ("num", 4)), ("cut", "r", ("num", 1)), ("cut", "r", ATOM)):
            self.assertEqual(self.end(let("s", right, ("give", row("r"))), 0, given, out="row"), ("give", given))
        again = let("s", ("with", "r", ATOM, ("num", 4)), let("t", ("cut", "s", ("num", 2)), let(
            "u", ("with", "t", ("num", 1), ("num", -4)), ("give", row("s")))))
        self.assertEqual(self.end(again, 0, given, out="row"), ("give", (4, 2, 3)))
        self.assertEqual(given, (1, 2, 3))

    def test_must(self):
        body = ("must", at("n"), ("num", 2), ("give", at("n")))
        for number in range(-9, 10):
            self.assertEqual(self.end(body, number, ()), ("give", number) if number <= 2 else ("fault", "must", 0, 0))
        self.assertEqual(self.end(("must", at("n"), at("n"), GIVE), 5, ()), ("give", 0))
        self.assertEqual(self.end(("must", at("n", 1), at("n"), GIVE), 5, ()), ("fault", "must", 0, 0))
        self.assertEqual(self.end(("must", ("num", 1), ("num", 1), GIVE), 5, ()), ("give", 0))

    def test_if(self):
        body = ("if", at("n"), ("num", 2), ("give", ("num", 1)), ("give", ("num", 2)))
        for number in range(-9, 10):
            self.assertEqual(self.end(body, number, ()), ("give", 1 if number <= 2 else 2))

    def test_faults_at_their_nodes(self):
        must = ("must", at("n"), ATOM, GIVE)
        body = ("if", at("n"), ("num", 1), ("if", at("n"), ATOM, let("a", ("be", ATOM), must), must), (
            "if", at("n"), ("num", 2), must, must))
        self.assertEqual(self.end(body, 0, ()), ("give", 0))
        self.assertEqual(self.end(body, 1, ()), ("fault", "must", 0, 5))
        self.assertEqual(self.end(body, 2, ()), ("fault", "must", 0, 8))
        self.assertEqual(self.end(body, 3, ()), ("fault", "must", 0, 10))
        self.assertEqual([steps_of(of(body), (n, ()), 300) for n in range(4)], [5, 3, 3, 3])

    def test_the_first_fault_ends(self):
        body = let("x", ("part", "r", at("n")), let("s", ("cut", "r", at("x")), ("must", at("x"), ATOM, GIVE)))
        self.assertEqual(self.end(body, 5, (1,)), ("fault", "part", 0, 0))
        self.assertEqual(self.end(body, 0, (2,)), ("fault", "cut", 0, 1))
        self.assertEqual(self.end(body, 0, (1,)), ("fault", "must", 0, 2))
        self.assertEqual(self.end(body, 0, (0,)), ("give", 0))

    def test_an_end_is_a_tuple(self):
        for told in (self.end(GIVE, 0, ()), self.end(("must", ("num", 1), ATOM, GIVE), 0, ()), run(of(GIVE), (0, ()), 0)):
            self.assertIs(type(told), tuple)
        self.assertIs(type(self.end(let("s", ("cut", "r", ATOM), ("give", row("s"))), 0, (1,), out="row")[1]), tuple)


class Calls(unittest.TestCase):
    def test_what_is_handed_on(self):
        made = by_text("fn main number n:number r:row", "let x call f n+1 r -2", "give x",
                       "fn f number a:number b:row c:number", "let p part b 1", "let q sum p c", "let t sum q a", "give t")
        self.assertEqual(run(made, (5, (1, 9)), 300), ("give", 13))
        self.assertEqual(calls_of(made, (5, (1, 9)), 300), [(0, (5, (1, 9))), (1, (6, (1, 9), -2))])

    def test_names_are_each_function_s_own(self):
        made = by_text("fn main number n:number m:number", "let x call f m n", "let y sum x n", "give y",
                       "fn f number n:number m:number", "let x sum n n", "let y sum x m", "give y")
        self.assertEqual(run(made, (1, 5), 300), ("give", 12))

    def test_a_fault_in_what_is_called(self):
        made = by_text("fn main number n:number", "let x call f n", "must x 0", "give x",
                       "fn f number n:number", "must n 4", "let y call g n-1", "give y",
                       "fn g number n:number", "if n 0", " must 0 n", " give n", "else", " must n 2", " give n")
        ends = {-1: ("fault", "must", 2, 1), 0: ("fault", "must", 2, 1), 1: ("give", 0), 2: ("fault", "must", 0, 1),
                3: ("fault", "must", 0, 1), 4: ("fault", "must", 2, 3), 5: ("fault", "must", 1, 0)}
        for n, end in ends.items():
            self.assertEqual(run(made, (n,), 300), end, n)
        self.assertEqual([steps_of(made, (n,), 300) for n in ends], [5, 5, 9, 8, 8, 5, 2])

    def test_functions_that_call_themselves(self):
        made = by_text("fn main number n:number", "let x call f n", "give x",
                       "fn f number n:number", "if n 0", " give 0", "else", " let m call f n-1", " let s sum m n", " give s")
        for n in range(10):
            self.assertEqual(run(made, (n,), 300), ("give", n * (n + 1) // 2))
            self.assertEqual(steps_of(made, (n,), 300), 4 + 4 * n)
            self.assertEqual(calls_of(made, (n,), 300), [(0, (n,))] + [(1, (k,)) for k in range(n, -1, -1)])

    def test_functions_that_call_one_another(self):
        made = by_text("fn main number n:number", "let x call even n", "give x",
                       "fn even number n:number", "if n 0", " give 1", "else", " let x call odd n-1", " give x",
                       "fn odd number n:number", "if n 0", " give 0", "else", " let x call even n-1", " give x")
        for n in range(10):
            self.assertEqual(run(made, (n,), 300), ("give", 1 - n % 2))
        self.assertEqual(calls_of(made, (3,), 300), [(0, (3,)), (1, (3,)), (2, (2,)), (1, (1,)), (2, (0,))])

    def test_without_an_end(self):
        for made in [by_text("fn main number", "let x call f", "give x", "fn f number", "let x call f", "give x"),
                     by_text("fn main number", "let x call f", "give x", "fn f number", "let x call g", "give x",
                             "fn g number", "let x call f", "give x")]:
            for limit in (0, 1, 2, 10, 299, 300):
                self.assertEqual(run(made, (), limit), ("limit",))
                self.assertEqual(steps_of(made, (), limit), limit)
                self.assertEqual(len(calls_of(made, (), limit)), limit + 1)

    def test_numbers_that_grow(self):
        made = by_text("fn main number n:number", "let x call f n 1", "give x", "fn f number n:number m:number",
                       "let x sum m m", "let y call f n x", "give y")
        calls = calls_of(made, (1,), 300)
        self.assertEqual(calls[-1], (1, (1, 2 ** 149)))
        self.assertEqual([args for _, args in calls], [(1,)] + [(1, 2 ** k) for k in range(150)])
        doubled = by_text("fn main number n:number", "let a sum n n", "let b sum a a", "let c sum b b", "let d sum c c",
                          "let e sum d d", "let f sum e e", "let g sum f f", "let h sum g g", "let i sum h h", "give i")
        self.assertEqual(run(doubled, (9,), 300), ("give", 9 * 2 ** 9))
        fallen = by_text("fn main number n:number", "let x call f n 4", "give x", "fn f number n:number m:number", "if m 0",
                         " give n", "else", " let a sum n n", " let b sum a a", " let c sum b b", " let d sum c c",
                         " let e sum d d", " let y call f e m-1", " give y")
        self.assertEqual(run(fallen, (-9,), 300), ("give", -9 * 2 ** 20))

    def test_just_the_calls_that_are_come_to(self):
        made = by_text("fn main number n:number r:row", "if n 0", " let x call f 1", " let y call g r", " give y", "else",
                       " let z call f n+2", " must z 0", " let u call f -4", " give u",
                       "fn f number a:number", "give a", "fn g number r:row", "let s cut r 2", "let t call h s", "give t",
                       "fn h number r:row", "give 0")
        self.assertEqual(calls_of(made, (0, (7, 8, 9)), 300), [
            (0, (0, (7, 8, 9))), (1, (1,)), (2, ((7, 8, 9),)), (3, ((7, 8),))])
        self.assertEqual(calls_of(made, (0, (7,)), 300), [(0, (0, (7,))), (1, (1,)), (2, ((7,),))])
        self.assertEqual(calls_of(made, (5, ()), 300), [(0, (5, ())), (1, (7,))])
        self.assertEqual(run(made, (5, ()), 300), ("fault", "must", 0, 5))

    def test_calls_up_to_the_limit(self):
        made = by_text("fn main number", "let x call f", "let y call f", "give y", "fn f number", "give 0")
        self.assertEqual(steps_of(made, (), 300), 5)
        many = [1, 2, 2, 3, 3, 3]
        for limit in range(6):
            self.assertEqual(calls_of(made, (), limit), [(0, ()), (1, ()), (1, ())][:many[limit]])

    def test_words_as_names_and_like_names(self):
        made = by_text("fn class number def:number while:row", "let for call def def while", "let num call while while",
                       "let at sum for num", "give at", "fn def number while:number def:row", "let end part def while",
                       "give end", "fn while number class:row", "let len long class", "give len")
        self.assertEqual(run(made, (1, (5, 6, 7)), 300), ("give", 9))
        self.assertEqual(calls_of(made, (1, (5, 6, 7)), 300), [(0, (1, (5, 6, 7))), (1, (1, (5, 6, 7))), (2, ((5, 6, 7),))])
        self.assertEqual(run(made, (3, (5, 6, 7)), 300), ("fault", "part", 1, 0))
        names = ("none", "self", "true", "return", "lambda", "int")
        body = chain(12, names + ("def", "is", "in", "not", "and", "or"))
        for name in names:
            self.assertEqual(run(of(body, params=(("x", "row"),), others=(function(name=name),)), ((),), 300), ("give", 0))


class Limits(unittest.TestCase):
    def test_around_the_steps_that_a_run_has(self):
        for many in range(1, 13):
            made = of(chain(many), params=())
            for limit in list(range(15)) + [300]:
                self.assertEqual(run(made, (), limit), ("give", 0) if limit >= many else ("limit",))
                self.assertEqual(steps_of(made, (), limit), min(limit, many))

    def test_a_fault_at_the_last_step(self):
        made = of(let("x", ("be", ATOM), ("must", ("num", 1), at("x"), GIVE)), params=())
        self.assertEqual([run(made, (), limit) for limit in range(4)],
                         [("limit",), ("limit",), ("fault", "must", 0, 1), ("fault", "must", 0, 1)])
        self.assertEqual([steps_of(made, (), limit) for limit in range(4)], [0, 1, 2, 2])

    def test_around_300_steps(self):
        # Of n the run has 8 + 4 (9 n + 1) steps.
        made = by_text("fn main number n:number", "let a sum n n", "let b sum a a", "let c sum b b", "let d sum c n+1",
                       "let x call f d", "give x", "fn f number n:number", "if n 0", " give 0", "else", " let u be 1",
                       " let m call f n-1", " give m")
        for n in range(8):
            self.assertEqual((run(made, (n,), 300), steps_of(made, (n,), 300)), (("give", 0), 12 + 36 * n))
        self.assertEqual((run(made, (8,), 300), steps_of(made, (8,), 300)), (("give", 0), 300))
        self.assertEqual((run(made, (8,), 299), steps_of(made, (8,), 299)), (("limit",), 299))
        self.assertEqual((run(made, (9,), 300), steps_of(made, (9,), 300)), (("limit",), 300))

    def test_no_limit(self):
        for limit in (-1, 301, 302, HUGE, -HUGE, True, False, Number(5), None, "5", (5,), [5]):
            for call in (run, steps_of, calls_of):
                with self.assertRaises(BadQuestion) as told:
                    call(of(GIVE), (0, ()), limit)
                self.assertIs(type(told.exception), BadQuestion)
        for thing in anything():
            if type(thing) is int and 0 <= thing <= 300:
                continue
            for call in (run, steps_of, calls_of):
                with self.assertRaises(BadQuestion):
                    call(of(GIVE), (0, ()), thing)

    def test_truths_right_behind_numbers(self):
        for call in (run, steps_of, calls_of):
            for number, truth in ((0, False), (1, True)):
                call(of(GIVE), (0, ()), number)
                with self.assertRaises(BadQuestion):
                    call(of(GIVE), (0, ()), truth)

    def test_order_of_refusals(self):
        bad = program(function(), function(("give",)))
        for call in (run, steps_of, calls_of):
            with self.assertRaises(BadProgram):
                call(bad, None, None)
            with self.assertRaises(BadProgram):
                call(bad, (), 301)
            with self.assertRaises(BadInput):
                call(of(GIVE), (), 301)
            with self.assertRaises(BadInput):
                call(of(GIVE), None, True)
            with self.assertRaises(BadQuestion):
                call(of(GIVE), (0, ()), True)


class Told(unittest.TestCase):
    def test_each_time_a_new_list(self):
        made = of(GIVE)
        told = calls_of(made, (1, (2,)), 300)
        self.assertIs(type(told), list)
        told.clear()
        self.assertEqual(calls_of(made, (1, (2,)), 300), [(0, (1, (2,)))])

    def test_nothing_handed_in_is_changed(self):
        inputs = (1, (2, 3, 4))
        made = read_program("fn main row n:number r:row\nlet s with r 0 n\nlet t cut s 1\ngive t")
        kept = copy.deepcopy((made, inputs))
        self.assertEqual(run(made, inputs, 300), ("give", (1,)))
        self.assertEqual((made, inputs), kept)


def some_inputs(made, chance):
    """Inputs that GIVEN lets, None where none were found."""
    given, functions = made
    for _ in range(20):
        inputs = tuple(chance.randint(-4, 6) if kind == "number" else tuple(
            chance.randint(-3, 5) for _ in range(chance.randint(0, 5))) for _, kind in functions[0][1])
        numbers_of = {"": 0}
        for (name, kind), worth in zip(functions[0][1], inputs):
            numbers_of["#" + name if kind == "row" else name] = len(worth) if kind == "row" else worth
        if all(numbers_of[one] <= numbers_of[other] + most for one, other, most in given):
            return inputs
    return None


class Many(unittest.TestCase):
    def test_as_by_the_words_of_the_document(self):
        chance = random.Random(6)
        ends = set()
        for seed in range(1500):
            made = Maker(seed).program()
            inputs = some_inputs(made, chance)
            if inputs is None:
                continue
            limit = chance.choice((300, 300, 300, chance.randint(0, 40)))
            slow = Runner(made, inputs, limit)
            self.assertEqual(run(made, inputs, limit), slow.end)
            self.assertEqual(steps_of(made, inputs, limit), len(slow.came))
            self.assertEqual(calls_of(made, inputs, limit), slow.calls)
            ends.add(slow.end[:2] if slow.end[0] == "fault" else slow.end[:1])
        self.assertEqual(ends, {("give",), ("limit",), ("fault", "part"), ("fault", "cut"), ("fault", "must")})


if __name__ == "__main__":
    unittest.main()
