"""Points 14, 20 and 22: what is shown, open and dead nodes, programs that are let by, and what that says of runs."""

import random
import unittest

from strikehall.errors import BadJudged, BadProgram, BadQuestion
from strikehall.faults import came_to
from strikehall.programs import need_program, nodes_of
from strikehall.runs import run
from strikehall.shown import dead_nodes, is_let_by, open_nodes, unshown_at
from strikehall.strikes import standing
from strikehall.ways import candidates, needed_at
from tests.making import Maker
from tests.naive import all_nodes, rounds
from tests.naive_tries import dead_by, open_by, shown
from tests.samples import GIVE, HUGE, MIXED, anything, at, function, let, numbers, program, rows
from tests.test_facts import by_text, some_judged
from tests.test_runs import some_inputs

NONE = ((), ())
PARAMS = "fn main number n:number m:number r:row"


class Unshown(unittest.TestCase):
    def test_place_first_then_the_rows_term(self):
        for word, right, less in (("part", ("part", "r", at("n", 1)), -2), ("with", ("with", "r", at("n", 1), at("m")), -2),
                                  ("cut", ("cut", "r", at("n", 1)), -1)):
            made = program(function(let("x", right), params=numbers("n", "m") + rows("r")))
            below, above = ("", "n", 1), ("n", "#r", less)
            self.assertEqual(needed_at(made, (NONE,), 0, 0), (below, above), word)
            self.assertEqual(unshown_at(made, (NONE,), 0, 0), (below, above))
            self.assertEqual(unshown_at(made, (((below,), ()),), 0, 0), (above,))
            self.assertEqual(unshown_at(made, (((above,), ()),), 0, 0), (below,))
            self.assertEqual(unshown_at(made, ((tuple(sorted((below, above))), ()),), 0, 0), ())

    def test_by_just_enough(self):
        made = by_text(PARAMS, "must n m+2", "give 0")
        for most in range(-3, 8):
            told = unshown_at(made, (((("n", "m", most),), ()),), 0, 0)
            self.assertEqual(told, () if most <= 2 else (("n", "m", 2),))
            told = unshown_at(made, (((("", "m", most), ("n", "", 3)), ()),), 0, 0)
            self.assertEqual(told, () if most <= -1 else (("n", "m", 2),))

    def test_left_out_and_never_so(self):
        made = by_text(PARAMS, "must n+1 n+1", "must n+1 n", "must 2 n", "give 0")
        self.assertEqual([unshown_at(made, (NONE,), 0, n) for n in range(4)], [(), (("", "", -1),), (), ()])
        unfit = ((("", "n", -1), ("n", "", 0)), ())
        self.assertEqual([unshown_at(made, (unfit,), 0, n) for n in range(4)], [(), (), (), ()])
        made = by_text(PARAMS, "let x part r -1", "give 0")
        self.assertEqual(unshown_at(made, (NONE,), 0, 0), (("", "", -1),))
        made = by_text(PARAMS, "let x part r 0", "give 0")
        self.assertEqual(unshown_at(made, (NONE,), 0, 0), (("", "#r", -1),))

    def test_of_calls_and_gives_in_order(self):
        made = by_text(PARAMS, "let x call f n m 3", "give x", "fn f number a:number b:number c:number", "give a")
        entry = (("", "a", 4), ("a", "", 1), ("a", "b", 0), ("b", "a", 2), ("c", "", 2))
        end = (("", "out", 9), ("m", "out", 0), ("out", "m", -5))
        judged = ((((("n", "m", 0),)), end), (entry, (("a", "out", 0), ("out", "a", 0))))
        self.assertEqual(unshown_at(made, judged, 0, 0), (("", "n", 4), ("n", "", 1), ("m", "n", 2), ("", "", -1)))
        self.assertEqual(unshown_at(made, judged, 0, 1), (("", "x", 9), ("m", "x", 0), ("x", "m", -5)))
        self.assertEqual(unshown_at(made, judged, 1, 0), ())

    def test_each_as_often_as_it_is_needed(self):
        made = by_text(PARAMS, "let x call f n n n", "give x", "fn f number a:number b:number c:number", "give a")
        entry = (("", "a", 1), ("", "b", 1), ("", "c", 1))
        self.assertEqual(unshown_at(made, (NONE, (entry, ())), 0, 0), (("", "n", 1),) * 3)

    def test_by_great_numbers(self):
        made = by_text(PARAMS, "let x call f n", "give 0", "fn f number a:number", "give 0")
        judged = (((("n", "", HUGE),), ()), ((("a", "", HUGE - 1),), ()))
        self.assertEqual(unshown_at(made, judged, 0, 0), (("n", "", HUGE - 1),))
        judged = (((("n", "", HUGE - 1),), ()), ((("a", "", HUGE),), ()))
        self.assertEqual(unshown_at(made, judged, 0, 0), ())

    def test_nothing_is_needed(self):
        made = by_text(PARAMS, "let a be n", "let b sum a n", "let c long r", "if c 0", " give c", "else", " give a")
        self.assertEqual([unshown_at(made, (NONE,), 0, n) for n in range(6)], [()] * 6)

    def test_as_by_the_words_of_the_document(self):
        chance = random.Random(31)
        told = 0
        for seed in range(120):
            made = Maker(seed).program()
            for judged in (some_judged(made, chance, 4), candidates(made), standing(made)):
                for f, n in all_nodes(made):
                    kept = tuple(need for need, so in shown(made, judged, f, n) if not so)
                    self.assertEqual(unshown_at(made, judged, f, n), kept)
                    told += len(kept) > 0
        self.assertGreater(told, 200)


class Nodes(unittest.TestCase):
    def told(self, *text):
        made = by_text(*text)
        self.assertIs(is_let_by(made), open_nodes(made) == [])
        return open_nodes(made), dead_nodes(made), is_let_by(made)

    def test_none_are_open(self):
        self.assertEqual(self.told("fn main number", "give 0"), ([], [], True))
        self.assertEqual(self.told("given 0 n 0", "given n #r -1", "fn main number n:number r:row", "let x part r n", "give x"),
                         ([], [], True))
        self.assertEqual(self.told(
            "fn main number n:number r:row", "if 0 n", " let m long r", " if n+1 m", "  let x part r n", "  give x", " else",
            "  give 0", "else", " let s cut r 0", " give 0"), ([], [], True))

    def test_each_kind_may_be_open(self):
        for right in ("part r n", "with r n 0", "cut r n"):
            self.assertEqual(self.told("fn main number n:number r:row", "let x " + right, "give 0"), ([(0, 0)], [], False))
        self.assertEqual(self.told("fn main number n:number r:row", "must 0 n", "give 0"), ([(0, 0)], [], False))

    def test_one_need_is_enough(self):
        self.assertEqual(self.told("given 0 n 0", "fn main number n:number r:row", "let x part r n", "give 0")[0], [(0, 0)])
        self.assertEqual(self.told("given n #r -1", "fn main number n:number r:row", "let x part r n", "give 0")[0], [(0, 0)])

    def test_behind_an_open_node_its_need_is_so(self):
        self.assertEqual(self.told("fn main number n:number r:row", "let x part r n", "let y part r n", "must 0 n", "give 0"),
                         ([(0, 0)], [], False))

    def test_calls_and_gives_are_never_open(self):
        for seed in range(100):
            made = Maker(seed).program()
            for f, n in open_nodes(made):
                node = nodes_of(made, f)[n]
                self.assertTrue(node[0] == "must" or node[0] == "let" and node[2][0] in ("part", "with", "cut"))

    def test_dead_behind_ifs_and_musts(self):
        self.assertEqual(self.told("fn main number n:number", "if 1 0", " must 1 n", " give 0", "else", " give 0"),
                         ([], [(0, 1), (0, 2)], True))
        self.assertEqual(self.told("fn main number n:number", "if 0 0", " give 0", "else", " must 1 0", " give 0"),
                         ([], [(0, 2), (0, 3)], True))
        self.assertEqual(self.told("fn main number n:number", "must 1 0", "let x be n", "give x"),
                         ([(0, 0)], [(0, 1), (0, 2)], False))
        self.assertEqual(self.told("fn main number n:number", "must 1 n", "if n 0", " must 4 n", " give 0", "else",
                                   " must 2 n", " give n"), ([(0, 0), (0, 4)], [(0, 2), (0, 3)], False))

    def test_dead_by_what_is_given_and_called(self):
        self.assertEqual(self.told("given 0 n -1", "given n 0 0", "fn main number n:number", "must n 0", "give n"),
                         ([], [(0, 0), (0, 1)], True))
        # What never gives, lets nothing come behind it; nobody calls g.
        self.assertEqual(self.told("fn main number n:number", "let x call f n", "must n x", "give 0", "fn f number a:number",
                                   "let y call f a", "give y", "fn g number b:number", "must b 4", "give b"),
                         ([], [(0, 1), (0, 2), (1, 1), (2, 0), (2, 1)], True))

    def test_open_by_calls_of_other_functions(self):
        text = ["fn main number n:number", "let x call f 3", "must 1 x", "give x", "fn f number a:number", "must 1 a", "give a"]
        self.assertEqual(self.told(*text), ([], [], True))
        self.assertEqual(self.told(*text, "fn g number b:number", "let y call f b", "give y"), ([], [(2, 0), (2, 1)], True))
        self.assertEqual(self.told(*text[:1], "let z call f n", *text[1:]), ([(1, 0)], [], False))

    def test_rising_lists_told_anew(self):
        made = by_text(PARAMS, "must n 0", "let x call f m r", "if 1 0", " give 0", "else", " must m 0", " give 0",
                       "fn f number a:number s:row", "let u part s a", "let v cut s 4", "must u 0", "give 0")
        self.assertEqual(open_nodes(made), [(0, 0), (0, 4), (1, 0), (1, 1), (1, 2)])
        self.assertEqual(dead_nodes(made), [(0, 3)])
        for call in (open_nodes, dead_nodes):
            told = call(made)
            self.assertIs(type(told), list)
            kept = list(told)
            told.clear()
            self.assertEqual(call(made), kept)

    def test_as_by_the_words_of_the_document(self):
        many = {"open": 0, "dead": 0, "by": 0}
        for seed in range(150):
            made = Maker(seed).program()
            judged = rounds(made, candidates(made))[1]
            self.assertEqual(open_nodes(made), open_by(made, judged))
            self.assertEqual(dead_nodes(made), dead_by(made, judged))
            self.assertIs(is_let_by(made), open_by(made, judged) == [])
            many["open"] += open_nodes(made) != []
            many["dead"] += dead_nodes(made) != []
            many["by"] += is_let_by(made)
        self.assertGreater(min(many.values()), 30)


class Runs(unittest.TestCase):
    def test_no_dead_node_is_come_to_and_faults_are_at_open_ones(self):
        chance = random.Random(32)
        faults = 0
        for seed in range(1000):
            made = Maker(seed).program()
            opens, deads = open_nodes(made), dead_nodes(made)
            for _ in range(6):
                inputs = some_inputs(made, chance)
                if inputs is None:
                    break
                for node in came_to(made, inputs, 300):
                    self.assertNotIn(node, deads)
                end = run(made, inputs, 300)
                if end[0] == "fault":
                    self.assertIn(end[2:], opens)
                    faults += 1
        self.assertGreater(faults, 500)


class Refused(unittest.TestCase):
    CALLS = [open_nodes, dead_nodes, is_let_by, lambda made: unshown_at(made, None, None, None)]

    def test_of_no_program(self):
        for call in self.CALLS:
            for thing in anything():
                with self.assertRaises(BadProgram):
                    call(thing)
            with self.assertRaises(BadProgram) as told:
                call(program(function(name="m"), function(("give", at("y")))))
            self.assertEqual(told.exception.place, 1)

    def test_in_order(self):
        judged = candidates(MIXED)
        for bad in [judged[:2], None] + anything():
            with self.assertRaises(BadJudged):
                unshown_at(MIXED, bad, None, True)
        for f, n in [(3, 0), (-1, 0), (True, 0), (0, 9), (0, -1), (0, True), (2, 1), (HUGE, HUGE), (None, 0), (0, "0")]:
            with self.assertRaises(BadQuestion):
                unshown_at(MIXED, judged, f, n)
        for thing in anything():
            if type(thing) is not int or not 0 <= thing < 9:
                with self.assertRaises(BadQuestion):
                    unshown_at(MIXED, judged, thing, 0)
                with self.assertRaises(BadQuestion):
                    unshown_at(MIXED, judged, 0, thing)

    def test_truths_right_behind_numbers(self):
        made = need_program(program(function(GIVE, name="m"), function(let("x", ("be", at("n"))), params=numbers("n"))))
        for number, truth in ((0, False), (1, True)):
            self.assertEqual(unshown_at(made, (NONE, NONE), number, 0), ())
            self.assertEqual(unshown_at(made, (NONE, NONE), 1, number), ())
            for f, n in ((truth, 0), (1, truth)):
                with self.assertRaises(BadQuestion):
                    unshown_at(made, (NONE, NONE), f, n)

    def test_kinds_of_what_is_told(self):
        self.assertIs(type(unshown_at(MIXED, candidates(MIXED), 0, 0)), tuple)
        self.assertIs(is_let_by(by_text("fn main number", "give 0")), True)
        self.assertIs(is_let_by(by_text("fn main number", "must 1 0", "give 0")), False)


if __name__ == "__main__":
    unittest.main()
