"""Points 20 and 21: what is struck, rounds, what is left, what holds, what lies within, STANDING."""

import copy
import random
import time
import unittest

from strikehall.errors import BadJudged, BadProgram
from strikehall.programs import need_program
from strikehall.runs import calls_of
from strikehall.strikes import (
    all_struck, holds_by, left_of, lies_within, rounds_of, standing, struck_at)
from strikehall.ways import candidates, pool_of
from tests.making import Maker
from tests.naive import Runner, all_nodes, rounds, struck, struck_anywhere, without
from tests.samples import ATOM, MIXED, anything, at, function, let, program, row
from tests.test_facts import by_text, some_judged
from tests.test_runs import some_inputs

NONE = ((), ())
SHORT = 5.0


def some_of(judged, chance, share):
    """JUDGED of some of these sayings."""
    return tuple(tuple(tuple(saying for saying in sayings if chance.random() < share) for sayings in pair) for pair in judged)


class Struck(unittest.TestCase):
    def test_at_a_give(self):
        made = by_text("fn main number n:number", "give n+2")
        end = (("", "out", 0), ("n", "out", -3), ("n", "out", -2), ("n", "out", 5), ("out", "", 9), ("out", "n", 1), ("out", "n", 2))
        self.assertEqual(struck_at(made, (((), end),), 0, 0), (
            (0, "end", ("", "out", 0)), (0, "end", ("n", "out", -3)), (0, "end", ("out", "", 9)), (0, "end", ("out", "n", 1))))
        entry = (("", "n", -2), ("n", "", 7))
        self.assertEqual(struck_at(made, ((entry, end),), 0, 0), ((0, "end", ("n", "out", -3)), (0, "end", ("out", "n", 1))))
        self.assertEqual(struck_at(made, ((entry[:1], end),), 0, 0),
                         ((0, "end", ("n", "out", -3)), (0, "end", ("out", "", 9)), (0, "end", ("out", "n", 1))))

    def test_at_a_call(self):
        made = by_text("fn main number n:number", "must 1 n", "let x call f n-1 n", "give x", "fn f number a:number b:number",
                       "give a", "fn g number c:number", "let x call f c 0", "give x")
        entry = (("", "a", -1), ("", "a", 0), ("a", "b", -2), ("a", "b", -1), ("b", "a", 1), ("b", "a", 0))
        judged = (NONE, (tuple(sorted(entry)), (("a", "out", 0),)), NONE)
        self.assertEqual(struck_at(made, judged, 0, 1), (
            (1, "entry", ("", "a", -1)), (1, "entry", ("a", "b", -2)), (1, "entry", ("b", "a", 0))))
        self.assertEqual(struck_at(made, judged, 2, 0), tuple((1, "entry", saying) for saying in sorted(entry)))
        self.assertEqual(struck_at(made, judged, 1, 0), ())

    def test_just_at_calls_and_gives(self):
        made = by_text("fn main number n:number r:row", "let a be n", "let b sum a n", "let c long r", "let d part r n",
                       "let s with r n n", "let t cut s n", "must n 0", "if n a", " give n", "else", " give 3")
        judged = candidates(made)
        for n in range(8):
            self.assertEqual(struck_at(made, judged, 0, n), ())
        self.assertNotEqual(struck_at(made, judged, 0, 8), ())

    def test_what_is_left_out_is_shown(self):
        made = by_text("fn main number n:number", "let x call f n n 3", "give n", "fn f number a:number b:number c:number", "give a")
        entry = (("", "c", -3), ("", "c", -4), ("a", "b", -1), ("a", "b", 0), ("b", "a", 2), ("c", "", 2), ("c", "", 3))
        end = (("n", "out", -1), ("n", "out", 0), ("out", "n", -1), ("out", "n", 5))
        judged = (((), end), (tuple(sorted(entry)), ()))
        self.assertEqual(struck_at(made, judged, 0, 0), (
            (1, "entry", ("", "c", -4)), (1, "entry", ("a", "b", -1)), (1, "entry", ("c", "", 2))))
        self.assertEqual(struck_at(made, judged, 0, 1), ((0, "end", ("n", "out", -1)), (0, "end", ("out", "n", -1))))

    def test_nothing_at_a_dead_node(self):
        made = by_text("fn main number n:number", "if 1 0", " let x call f n", " give 0", "else", " if n 0", "  must 1 n",
                       "  give 1", " else", "  give n", "fn f number a:number", "give a")
        judged = candidates(made)
        self.assertEqual([struck_at(made, judged, 0, n) for n in (1, 2, 5)], [(), (), ()])
        self.assertNotEqual(struck_at(made, judged, 0, 6), ())
        self.assertEqual(standing(made)[1][0], judged[1][0])
        unfit = (((("", "n", -1), ("n", "", 0)), judged[0][1]), judged[1])
        for f, n in all_nodes(made):
            if f == 0:
                self.assertEqual(struck_at(made, unfit, f, n), ())

    def test_nothing_behind_a_call_that_never_gives(self):
        made = by_text("fn main number n:number", "let x call f n n", "give x", "fn f number a:number b:number", "give a")
        end = (("out", "", -4),)
        for most in range(-3, 3):
            judged = (((), end), ((), (("a", "b", most),)))
            self.assertEqual(struck_at(made, judged, 0, 1), ((0, "end", end[0]),) if most >= 0 else ())

    def test_a_row_has_no_fewer_numbers_than_none(self):
        made = by_text("fn main row r:row s:row", "let t call f r", "if 0 1", " give t", "else", " give s",
                       "fn f row r:row", "give r")
        judged = (((), (("", "#out", -1), ("", "#out", 0), ("", "#r", 0), ("", "#s", -1))), NONE)
        for n in (2, 3):
            self.assertEqual(struck_at(made, judged, 0, n), ((0, "end", ("", "#out", -1)), (0, "end", ("", "#s", -1)))
                             if n == 2 else ())
        judged = (NONE, ((("", "#r", -1), ("", "#r", 0)), ()))
        self.assertEqual(struck_at(made, judged, 0, 0), ((1, "entry", ("", "#r", -1)),))

    def test_each_once_of_all_nodes(self):
        made = by_text("fn main number n:number", "if n 0", " let x call f n", " give x", "else", " let y call f n", " give y",
                       "fn f number a:number", "give a")
        judged = (NONE, ((("", "a", -1), ("a", "", -5)), ()))
        both = ((1, "entry", ("", "a", -1)), (1, "entry", ("a", "", -5)))
        self.assertEqual(struck_at(made, judged, 0, 1), both)
        self.assertEqual(struck_at(made, judged, 0, 3), both[1:])
        self.assertEqual(all_struck(made, judged), both)

    def test_rising_by_functions_and_sides(self):
        made = by_text("fn main number n:number", "let x call f n", "let y call g x", "give y", "fn f number a:number",
                       "give a+4", "fn g number b:number", "give b-4")
        judged = (((), (("out", "", -10),)), ((("a", "", 0),), (("out", "", 3), ("out", "", 9))),
                  ((("b", "", 0),), (("out", "", -9), ("out", "b", -4))))
        self.assertEqual(all_struck(made, judged), (
            (0, "end", ("out", "", -10)), (1, "end", ("out", "", 3)), (1, "entry", ("a", "", 0)), (2, "end", ("out", "", -9)),
            (2, "entry", ("b", "", 0))))

    def test_by_great_numbers(self):
        great = 10 ** 299
        made = by_text("fn main number n:number", "give n+1")
        judged = (((("", "n", -great),), (("", "out", -great - 2), ("", "out", -great - 1), ("out", "n", 1))),)
        self.assertEqual(struck_at(made, judged, 0, 0), ((0, "end", ("", "out", -great - 2)),))
        self.assertEqual(all_struck(made, judged), ((0, "end", ("", "out", -great - 2)),))
        self.assertEqual(left_of(made, judged), (((("", "n", -great),), (("", "out", -great - 1), ("out", "n", 1))),))


class Rounds(unittest.TestCase):
    CHAIN = ("fn main number n:number", "let x call f n", "give x", "fn f number a:number", "let y call g a", "give y",
             "fn g number b:number", "let z call h b", "give z", "fn h number c:number", "give 0")

    def test_one_behind_the_other(self):
        made = by_text(*self.CHAIN)
        judged = (NONE, ((("a", "", 5),), ()), ((("b", "", 5),), ()), ((("c", "", 5),), ()))
        told = rounds_of(made, judged)
        self.assertEqual(told, [((1, "entry", ("a", "", 5)),), ((2, "entry", ("b", "", 5)),), ((3, "entry", ("c", "", 5)),)])
        self.assertEqual(left_of(made, judged), (NONE,) * 4)
        self.assertEqual(all_struck(made, judged), told[0])
        self.assertIs(holds_by(made, judged), False)

    def test_what_holds_has_no_rounds(self):
        made = by_text(*self.CHAIN)
        for judged in [(NONE,) * 4, ((((("n", "", 5),), ()), ((("a", "", 5),), ()), ((("b", "", 5),), ()), NONE)),
                       (((), (("", "out", 0), ("out", "", 0))),) * 4]:
            self.assertEqual(rounds_of(made, judged), [])
            self.assertEqual(all_struck(made, judged), ())
            self.assertIs(holds_by(made, judged), True)
            self.assertEqual(left_of(made, judged), judged)

    def test_what_stands_by_itself_alone(self):
        """A function that only calls itself keeps all: nothing else is handed on to it, and it never gives."""
        made = by_text("fn main number", "give 0", "fn f number n:number", "let x call f n", "give x")
        self.assertEqual(standing(made)[1], candidates(made)[1])
        made = by_text("fn main number", "give 0", "fn f number n:number", "let x call f n+1", "give x")
        told = standing(made)
        self.assertEqual(told[1][1], candidates(made)[1][1])
        self.assertEqual(told[1][0], candidates(made)[1][0])

    def test_unfit_entries_keep_one_another(self):
        # By what is judged no numbers fit at the entry: so all follows there.
        made = by_text("fn main number", "give 0", "fn f number n:number", "let x call g n", "give x", "fn g number n:number",
                       "let x call f n", "give x")
        self.assertEqual(standing(made)[1:], candidates(made)[1:])

    def test_all_struck_out(self):
        made = by_text("fn main number n:number m:number", "let x sum n m", "give x")
        told = standing(made)
        self.assertEqual(told, (NONE,))
        self.assertEqual([len(gone) for gone in rounds_of(made, candidates(made))], [36])

    def test_nothing_struck_out(self):
        made = by_text("fn main number", "let x call f", "give x", "fn f number", "let x call f", "give x")
        self.assertEqual(standing(made), candidates(made))
        self.assertIs(holds_by(made, candidates(made)), True)
        self.assertEqual(rounds_of(made, candidates(made)), [])

    def test_something_struck_out(self):
        made = by_text("given 0 n 0", "given n 0 3", "fn main number n:number", "let x call f n", "give x",
                       "fn f number a:number", "if a 0", " give 0", "else", " let b call f a-1", " give b+1")
        told = standing(made)
        self.assertEqual(told[0][0], (("", "n", 0), ("n", "", 3)))
        self.assertIn(("", "a", 0), told[1][0])
        self.assertIn(("a", "", 3), told[1][0])
        self.assertNotIn(("a", "", 1), told[1][0])
        self.assertIn(("", "out", 0), told[1][1])
        self.assertIn(("out", "a", 0), told[1][1])
        self.assertIn(("out", "n", 0), told[0][1])
        self.assertNotIn(("out", "", 0), told[1][1])

    def test_functions_that_nobody_calls(self):
        made = by_text("fn main number", "give 0", "fn f number n:number r:row", "give n", "fn g row r:row", "give r")
        told = standing(made)
        self.assertEqual([pair[0] for pair in told], [pair[0] for pair in candidates(made)])
        # At their entries no numbers fit by what stands, so nothing is struck at their gives, too.
        self.assertEqual(told[1:], candidates(made)[1:])
        free = (NONE, ((), candidates(made)[1][1]), ((), candidates(made)[2][1]))
        self.assertEqual(left_of(made, free)[1][1], tuple(
            saying for saying in free[1][1] if saying[:2] in (("n", "out"), ("out", "n"), ("", "#r")) and saying[2] >= 0))

    def test_several_calls_of_one_function(self):
        made = by_text("fn main number", "let x call f 1 2", "let y call f 2 3", "let z call f 0 3", "give 0",
                       "fn f number a:number b:number", "give b")
        self.assertEqual(standing(made)[1][0], (
            ("", "a", 0), ("", "a", 1), ("", "a", 2), ("", "a", 3), ("", "b", -1), ("", "b", 0), ("", "b", 1), ("", "b", 2),
            ("", "b", 3), ("a", "", 2), ("a", "", 3), ("a", "b", -1), ("a", "b", 0), ("a", "b", 1), ("a", "b", 2), ("a", "b", 3),
            ("b", "", 3), ("b", "a", 3)))

    def test_the_first_functions_entry_stays(self):
        made = by_text("given n 0 -3", "given 0 n 4", "fn main number n:number", "give n", "fn f number", "give 0")
        self.assertEqual(standing(made)[0][0], (("", "n", 4), ("n", "", -3)))
        judged = (((("", "n", 99), ("n", "", -99)), (("out", "", -98),)), NONE)
        self.assertEqual(left_of(made, judged)[0], (judged[0][0], (("out", "", -98),)))

    def test_none_of_them_is_empty(self):
        for seed in range(200):
            made = Maker(seed).program()
            told = rounds_of(made, candidates(made))
            self.assertIs(type(told), list)
            for gone in told:
                self.assertIs(type(gone), tuple)
                self.assertGreater(len(gone), 0)
                self.assertEqual(gone, tuple(sorted(set(gone))))

    def test_told_is_new_each_time(self):
        made = by_text(*self.CHAIN)
        told = rounds_of(made, candidates(made))
        kept = copy.deepcopy(told)
        told.clear()
        self.assertEqual(rounds_of(made, candidates(made)), kept)


class Within(unittest.TestCase):
    MADE = by_text("fn main number n:number", "give n", "fn f number n:number", "give n")

    def test_by_hand(self):
        one = ((("", "n", 0),), (("n", "out", 0),))
        more = ((("", "n", 0), ("n", "", 0)), (("", "n", 0), ("n", "out", 0)))
        for first in (NONE, one, more):
            for second in (NONE, one, more):
                for third in (NONE, one, more):
                    for fourth in (NONE, one, more):
                        order = [NONE, one, more]
                        told = order.index(first) <= order.index(third) and order.index(second) <= order.index(fourth)
                        self.assertIs(lies_within(self.MADE, (first, second), (third, fourth)), told)

    def test_at_the_same_place_alone(self):
        sayings = (("", "n", 0),)
        places = [((sayings, ()), NONE), (((), sayings), NONE), (NONE, (sayings, ())), (NONE, ((), sayings))]
        for one in places:
            for other in places:
                self.assertIs(lies_within(self.MADE, one, other), one == other)
        self.assertIs(lies_within(self.MADE, places[0], (((("", "n", 1),), ()), NONE)), False)

    def test_refusals(self):
        good = (NONE, NONE)
        for bad in (None, (), (NONE,), ((((("", "n", True),)), ()), NONE)):
            for pair in ((good, bad), (bad, good), (bad, bad)):
                with self.assertRaises(BadJudged):
                    lies_within(self.MADE, *pair)
                with self.assertRaises(BadProgram):
                    lies_within(program(function(), function(("give",))), *pair)


class Widest(unittest.TestCase):
    def check(self, made, judged, chance):
        told, left = rounds(made, judged)
        self.assertEqual(rounds_of(made, judged), told)
        self.assertEqual(left_of(made, judged), left)
        self.assertEqual(all_struck(made, judged), told[0] if told else ())
        self.assertIs(holds_by(made, judged), not told)
        self.assertIs(holds_by(made, left), True)
        self.assertIs(lies_within(made, left, judged), True)
        self.assertIs(lies_within(made, judged, left), judged == left)
        # Whatever holds and lies within what was begun with lies within what is left.
        for share in (0.3, 0.7, 0.95):
            held = left_of(made, some_of(judged, chance, share))
            self.assertIs(holds_by(made, held), True)
            self.assertIs(lies_within(made, held, left), True)

    def test_candidates_round_by_round(self):
        chance = random.Random(13)
        for seed in range(60):
            made = Maker(seed).program()
            self.check(made, candidates(made), chance)
            self.assertEqual(standing(made), left_of(made, candidates(made)))

    def test_other_judged_round_by_round(self):
        chance = random.Random(14)
        for seed in range(100, 250):
            made = Maker(seed).program()
            judged = some_of(candidates(made), chance, 0.5) if seed % 2 else some_judged(made, chance, 4)
            self.check(made, judged, chance)

    def test_at_each_node(self):
        chance = random.Random(15)
        for seed in range(250, 330):
            made = Maker(seed).program()
            judged = some_of(candidates(made), chance, 0.4) if seed % 2 else some_judged(made, chance, 4)
            for f, n in all_nodes(made):
                told = struck_at(made, judged, f, n)
                self.assertEqual(told, tuple(sorted(struck(made, judged, f, n))))
            self.assertEqual(all_struck(made, judged), struck_anywhere(made, judged))

    def test_it_hangs_on_no_order(self):
        chance = random.Random(16)
        for seed in range(330, 400):
            made = Maker(seed).program()
            judged = candidates(made)
            left = left_of(made, judged)
            while True:
                gone = all_struck(made, judged)
                if not gone:
                    break
                judged = without(judged, set(chance.sample(gone, chance.randint(1, len(gone)))))
            self.assertEqual(judged, left)

    def test_what_stands_is_so_in_runs(self):
        chance = random.Random(17)
        tried = 0
        for seed in range(400, 900):
            made = Maker(seed).program()
            judged = standing(made)
            for _ in range(3):
                inputs = some_inputs(made, chance)
                if inputs is None:
                    continue
                slow = Runner(made, inputs, 300)
                for f, args in calls_of(made, inputs, 300):
                    self.so(judged[f][0], made[1][f], args, None)
                for f, args, given in slow.gives:
                    self.so(judged[f][1], made[1][f], args, given)
                    tried += len(judged[f][1]) > 0
        self.assertGreater(tried, 300)

    def so(self, sayings, called, args, given):
        worths = {"": 0}
        for (name, kind), worth in list(zip(called[1], args)) + [(("out", called[2]), given)]:
            if worth is not None:
                worths["#" + name if kind == "row" else name] = len(worth) if kind == "row" else worth
        for one, other, most in sayings:
            self.assertLessEqual(worths[one], worths[other] + most)


class Great(unittest.TestCase):
    """Programs of 4 functions and 12 nodes each."""

    def heads(self, kinds, out):
        params = tuple(zip("xyz", kinds))
        return [(name, params, out) for name in ("main", "fa", "fb", "fc")]

    def body(self, chance, params, out):
        """Ten calls and a must in front of a give."""
        names = dict(params)
        nodes = []
        for k in range(11):
            if k == 5:
                nodes.append(("must", self.arg(chance, names, "number"), self.arg(chance, names, "number")))
                continue
            args = tuple(self.arg(chance, names, kind) for _, kind in params)
            nodes.append(("let", "c" + "abcdefghijk"[k], ("call", chance.choice(("fa", "fb", "fc")), args)))
            names[nodes[-1][1]] = out
        body = ("give", self.arg(chance, names, out))
        for node in nodes[::-1]:
            body = (*node, body)
        return body

    def arg(self, chance, names, kind):
        among = [name for name in names if names[name] == kind]
        if kind == "row":
            return row(chance.choice(among))
        return at(chance.choice(among), chance.randint(-4, 4)) if among and chance.random() < 0.9 else ("num", 1)

    def test_in_a_short_time(self):
        chance = random.Random(18)
        for kinds in (("number",) * 3, ("row",) * 3, ("number", "row", "number")):
            for out in ("number", "row")[:1 + ("row" in kinds)]:
                for _ in range(5):
                    functions = tuple((*head, self.body(chance, *head[1:])) for head in self.heads(kinds, out))
                    made = need_program(((), functions))
                    start = time.process_time()
                    judged = standing(made)
                    self.assertLess(time.process_time() - start, SHORT)
                    self.assertIs(holds_by(made, judged), True)
                    self.assertIs(lies_within(made, judged, candidates(made)), True)

    def test_of_many_rounds(self):
        made = by_text(
            "fn main number", "let x call fa 0 0", "give x",
            "fn fa number n:number m:number", "let x call fb n+1 m", "give x",
            "fn fb number n:number m:number", "let x call fc n m+1", "give x",
            "fn fc number n:number m:number", "let x call fa n-4 m+3", "let y call fb m n", "give y")
        told, left = rounds(made, candidates(made))
        self.assertGreater(len(told), 4)
        self.assertEqual(rounds_of(made, candidates(made)), told)
        self.assertEqual(standing(made), left)


class Refused(unittest.TestCase):
    def test_of_no_program(self):
        judged = candidates(MIXED)
        calls = [standing, lambda made: all_struck(made, judged), lambda made: holds_by(made, judged),
                 lambda made: rounds_of(made, judged), lambda made: left_of(made, judged),
                 lambda made: lies_within(made, judged, judged), lambda made: struck_at(made, judged, 0, 0)]
        for call in calls:
            for thing in anything():
                with self.assertRaises(BadProgram):
                    call(thing)
            with self.assertRaises(BadProgram) as told:
                call(program(function(name="m"), function(let("x", ("be", ATOM), ("give", at("y"))))))
            self.assertEqual(told.exception.place, 1)

    def test_truths_are_told_as_truths(self):
        made = by_text("fn main number n:number", "give n")
        self.assertIs(holds_by(made, candidates(made)), False)
        self.assertIs(holds_by(made, (NONE,)), True)
        self.assertIs(lies_within(made, (NONE,), candidates(made)), True)
        self.assertIs(lies_within(made, candidates(made), (NONE,)), False)

    def test_kinds_of_what_is_told(self):
        told = standing(MIXED)
        self.assertIs(type(told), tuple)
        for pair in told:
            self.assertEqual((type(pair), len(pair)), (tuple, 2))
            for sayings in pair:
                self.assertIs(type(sayings), tuple)
                self.assertEqual(sayings, tuple(sorted(set(sayings))))
        self.assertIs(type(struck_at(MIXED, candidates(MIXED), 0, 0)), tuple)
        self.assertIs(type(all_struck(MIXED, candidates(MIXED))), tuple)
        self.assertLessEqual({most for pair in told for sayings in pair for _, _, most in sayings}, set(pool_of(MIXED)))


if __name__ == "__main__":
    unittest.main()
