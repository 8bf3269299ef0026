"""Points 30 to 32: scopes, NUMBERS, and the papers that are told."""

import copy
import random
import time
import unittest

from strikehall.checking import check_paper
from strikehall.errors import BadJudged, BadProgram, BadQuestion
from strikehall.papers import fits_at, numbers_against, paper_of, scope_at
from strikehall.programs import need_program, nodes_of
from strikehall.shown import dead_nodes, open_nodes
from strikehall.strikes import rounds_of, standing
from strikehall.ways import candidates, facts_at, needed_at
from tests.making import Maker
from tests.naive import all_nodes
from tests.naive_papers import all_so, are_numbers, scope, so
from tests.naive_tries import shown
from tests.samples import (
    ATOM, GIVE, HUGE, MIXED, Number, Pair, Text, anything, at, chain, function, let, numbers, program, row, rows)
from tests.test_facts import by_text, some_judged

NONE = ((), ())
SHORT = 3.0


class Scopes(unittest.TestCase):
    def test_params_alone(self):
        for params, told in [((), ()), (numbers("n"), ("n",)), (rows("n"), ("#n",)),
                             (numbers("b") + rows("a") + numbers("ab"), ("#a", "ab", "b")),
                             (rows("z", "b") + numbers("a"), ("#b", "#z", "a"))]:
            made = need_program(program(function(GIVE, name="m"), function(params=params)))
            self.assertEqual(scope_at(made, 1, 0), told)
            self.assertEqual(scope_at(made, 0, 0), ())

    def test_lets_ahead_alone(self):
        made = by_text("fn main number n:number r:row", "let a be n", "must a 0", "let s with r a 0", "let b call f",
                       "let t call g r",
                       "let c cut t 0", "give b", "fn f number", "give 0", "fn g row x:row", "give x")
        self.assertEqual([scope_at(made, 0, n) for n in range(7)], [
            ("#r", "n"), ("#r", "a", "n"), ("#r", "a", "n"), ("#r", "#s", "a", "n"), ("#r", "#s", "a", "b", "n"),
            ("#r", "#s", "#t", "a", "b", "n"), ("#c", "#r", "#s", "#t", "a", "b", "n")])

    def test_each_body_of_an_if_for_itself(self):
        made = by_text("fn main number n:number r:row", "if n 0", " let a be 0", " if a 0", "  let b long r", "  give b", " else",
                       "  let s cut r 0", "  give 0", "else", " let c be n", " give c")
        self.assertEqual([scope_at(made, 0, n) for n in range(8)], [
            ("#r", "n"), ("#r", "n"), ("#r", "a", "n"), ("#r", "a", "n"), ("#r", "a", "b", "n"), ("#r", "a", "n"),
            ("#r", "#s", "a", "n"), ("#r", "n")])
        self.assertEqual(scope_at(made, 0, 8), ("#r", "c", "n"))

    def test_as_by_the_words_of_the_document(self):
        for seed in range(300):
            made = Maker(seed).program()
            for f, n in all_nodes(made):
                told = scope_at(made, f, n)
                self.assertIs(type(told), tuple)
                self.assertEqual(told, scope(made, f, n))

    def test_refusals(self):
        for thing in anything():
            with self.assertRaises(BadProgram):
                scope_at(thing, None, None)
            if type(thing) is not int or not 0 <= thing < 3:
                with self.assertRaises(BadQuestion):
                    scope_at(MIXED, thing, 0)
                with self.assertRaises(BadQuestion):
                    scope_at(MIXED, 2, thing if type(thing) is not int else 1)
        for f, n in ((0, 9), (1, 6), (2, 1), (3, 0), (True, 0), (0, False), (-1, 0)):
            with self.assertRaises(BadQuestion):
                scope_at(MIXED, f, n)


class Fitting(unittest.TestCase):
    MADE = by_text("fn main number n:number r:row", "let x part r n", "let y call f n", "give y", "fn f number a:number", "give a")

    def fits(self, judged, node, **worths):
        told = tuple((term, worths[term.replace("#", "")]) for term in scope_at(self.MADE, 0, node))
        return fits_at(self.MADE, judged, 0, node, told)

    def test_by_the_facts_there(self):
        for n in range(-2, 5):
            for r in range(-2, 5):
                self.assertIs(self.fits((NONE, NONE), 0, n=n, r=r), r >= 0)
                self.assertIs(self.fits(((((("", "n", -1),)), ()), NONE), 0, n=n, r=r), r >= 0 and n >= 1)
                self.assertIs(self.fits((NONE, NONE), 1, n=n, r=r, x=-99), 0 <= n < r)
                for y in range(-1, 3):
                    judged = (NONE, ((), (("a", "out", 1), ("out", "", 1))))
                    self.assertIs(self.fits(judged, 2, n=n, r=r, x=7, y=y), 0 <= n < r and n <= y + 1 and y <= 1)

    def test_where_nothing_fits(self):
        made = by_text("fn main number n:number", "if 1 0", " give 0", "else", " give n")
        for n in range(-3, 4):
            self.assertIs(fits_at(made, (NONE,), 0, 1, (("n", n),)), False)
            self.assertIs(fits_at(made, (NONE,), 0, 2, (("n", n),)), True)

    def test_no_terms(self):
        made = by_text("fn main number", "must 1 0", "let x be 3", "give 0")
        self.assertIs(fits_at(made, (NONE,), 0, 0, ()), True)
        self.assertIs(fits_at(made, (NONE,), 0, 1, ()), False)

    def test_great_numbers(self):
        made = by_text("fn main number n:number m:number", "must n m+1", "give 0")
        for n, m in ((HUGE, HUGE - 1), (HUGE, HUGE), (-HUGE, HUGE), (HUGE, -HUGE), (HUGE + 1, HUGE - 1),
                     (10 ** 300 - 1, 10 ** 300 - 2)):
            self.assertIs(fits_at(made, (NONE,), 0, 1, (("m", m), ("n", n))), n <= m + 1)
        judged = (((("n", "m", -HUGE),), ()),)
        self.assertIs(fits_at(made, judged, 0, 0, (("m", HUGE), ("n", 0))), True)
        self.assertIs(fits_at(made, judged, 0, 0, (("m", HUGE), ("n", 1))), False)

    def test_no_numbers_there(self):
        good = (("#r", 0), ("n", 0))
        bad = [(), good[:1], good[1:], good[::-1], good + good[1:], good + (("x", 0),), (good[0], good[0]), (good[1], good[1]),
               (("#r", True), ("n", 0)), (("#r", 0), ("n", False)), (("#r", None), ("n", 0)), (("#r", "0"), ("n", 0)),
               (("r", 0), ("n", 0)), (("#r", 0), ("#n", 0)), (("", 0),) + good, list(good), dict(good), (list(good[0]), good[1]),
               (("#r", 0, 0), ("n", 0)), (("#r",), ("n", 0)), (("#r", Number(0)), ("n", 0)), ((Text("#r"), 0), ("n", 0)),
               (Pair(good[0]), good[1]), Pair(good), (("#r", 0), ("m", 0)), ((0, "#r"), (0, "n")), 0, None]
        self.assertIs(fits_at(self.MADE, (NONE, NONE), 0, 0, good), True)
        for thing in bad + anything():
            with self.assertRaises(BadQuestion):
                fits_at(self.MADE, (NONE, NONE), 0, 0, thing)
        # Of a scope without TERMs there is one alone.
        for thing in anything():
            if type(thing) is not tuple or thing != ():
                with self.assertRaises(BadQuestion):
                    fits_at(program(function()), (NONE,), 0, 0, thing)

    def test_truths_right_behind_numbers(self):
        for number, truth in ((0, False), (1, True)):
            fits_at(self.MADE, (NONE, NONE), 0, 0, (("#r", number), ("n", number)))
            for told in ((("#r", truth), ("n", number)), (("#r", number), ("n", truth))):
                with self.assertRaises(BadQuestion):
                    fits_at(self.MADE, (NONE, NONE), 0, 0, told)

    def test_refusals_in_order(self):
        for thing in anything():
            with self.assertRaises(BadProgram):
                fits_at(thing, None, None, None, None)
            with self.assertRaises(BadJudged):
                fits_at(MIXED, thing, None, None, None)
        for f, n in ((3, 0), (0, 9), (True, 0), (0, True), (None, 0), (0, None)):
            with self.assertRaises(BadQuestion):
                fits_at(MIXED, candidates(MIXED), f, n, ())

    def test_as_by_the_words_of_the_document(self):
        chance = random.Random(41)
        many = {True: 0, False: 0}
        for seed in range(200):
            made = Maker(seed).program()
            judged = some_judged(made, chance, 4)
            for f, n in all_nodes(made):
                told = tuple((term, chance.randint(-3, 6)) for term in scope_at(made, f, n))
                fit = all_so(facts_at(made, judged, f, n), told)
                self.assertIs(fits_at(made, judged, f, n, told), fit)
                many[fit] += 1
        self.assertGreater(min(many.values()), 100)


class Against(unittest.TestCase):
    def check(self, made, judged, f, n):
        """What is told of each need of the node, and whether each is shown."""
        terms = scope_at(made, f, n)
        for k, (need, is_shown) in enumerate(shown(made, judged, f, n)):
            told = numbers_against(made, judged, f, n, k)
            self.assertIs(told is None, is_shown)
            if told is not None:
                self.assertTrue(are_numbers(told, terms))
                self.assertIs(fits_at(made, judged, f, n, told), True)
                self.assertIs(so(need, told), False)
        with self.assertRaises(BadQuestion):
            numbers_against(made, judged, f, n, len(needed_at(made, judged, f, n)))

    def test_each_need_of_each_kind_of_node(self):
        made = by_text("fn main number n:number m:number r:row", "let a part r n", "let s with r m a", "let t cut s m-1",
                       "must n m-2",
                       "let x call f n t 2", "if x m", " must 1 0", " give x", "else", " give m",
                       "fn f number a:number b:row c:number", "give c")
        judged = (((("n", "m", 3),), (("", "n", 1), ("out", "m", 0))), ((("", "a", 0), ("", "c", -3), ("a", "#b", 0)),
                                                                        (("a", "out", 4),)))
        for f, n in all_nodes(made):
            self.check(made, judged, f, n)
            self.check(made, candidates(made), f, n)
            self.check(made, standing(made), f, n)
        self.assertEqual(numbers_against(made, judged, 0, 4, 0), None)
        self.assertNotEqual(numbers_against(made, judged, 0, 4, 1), None)

    def test_of_two_terms_that_come_to_one(self):
        made = by_text("fn main number n:number", "must n n-1", "give n")
        told = numbers_against(made, (NONE,), 0, 0, 0)
        self.assertIs(fits_at(made, (NONE,), 0, 0, told), True)
        unfit = (((("", "n", -1), ("n", "", 0)), ()),)
        self.assertIs(numbers_against(made, unfit, 0, 0, 0), None)

    def test_a_scope_without_terms(self):
        made = by_text("fn main number", "must 1 0", "give 0")
        self.assertEqual(numbers_against(made, (NONE,), 0, 0, 0), ())

    def test_great_numbers(self):
        made = by_text("fn main number n:number m:number", "let x call f n m", "give x", "fn f number a:number b:number", "give 0")
        for most in (-HUGE, HUGE, 0):
            judged = (((("", "m", -HUGE), ("m", "", HUGE + 5), ("n", "m", most - 1)), ()),
                      ((("a", "b", most - 2), ("a", "b", most)), ()))
            self.check(made, judged, 0, 0)

    def test_refusals_in_order(self):
        made = by_text("fn main number n:number", "must n 0", "let x be n", "give x")
        for thing in anything():
            with self.assertRaises(BadProgram):
                numbers_against(thing, None, None, None, None)
            with self.assertRaises(BadJudged):
                numbers_against(MIXED, thing, None, None, None)
            if type(thing) is not int or thing != 0:
                with self.assertRaises(BadQuestion):
                    numbers_against(made, (NONE,), 0, 0, thing)
        for f, n, k in ((1, 0, 0), (0, 3, 0), (0, 1, 0), (0, 2, 0), (0, 0, 1), (0, 0, -1), (0, 0, False), (False, 0, 0),
                        (0, False, 0)):
            with self.assertRaises(BadQuestion):
                numbers_against(made, (NONE,), f, n, k)

    def test_of_many_programs(self):
        chance = random.Random(42)
        for seed in range(150):
            made = Maker(seed).program()
            # Of all candidates a node may need some hundred: so they are asked about in a few programs alone.
            for judged in [some_judged(made, chance, 4)] + [candidates(made)] * (seed % 15 == 0):
                for f, n in all_nodes(made):
                    self.check(made, judged, f, n)


class Papers(unittest.TestCase):
    def check(self, made):
        paper = paper_of(made)
        self.assertEqual(check_paper(made, paper), (standing(made), tuple(open_nodes(made))))
        return paper

    def test_all_that_goes_is_struck_once(self):
        for seed in range(150):
            made = Maker(seed).program()
            strikes, _ = self.check(made)
            gone = [struck for told in rounds_of(made, candidates(made)) for struck in told]
            self.assertEqual(sorted(strike[:3] for strike in strikes), sorted(gone))

    def test_one_thing_for_each_need_by_what_stands(self):
        words = set()
        for seed in range(150):
            made = Maker(seed).program()
            judged, deads = standing(made), dead_nodes(made)
            _, told = self.check(made)
            self.assertEqual(len(told), len(made[1]))
            for f, n in all_nodes(made):
                self.assertEqual(len(told[f]), len(nodes_of(made, f)))
                self.assertEqual(len(told[f][n]), len(needed_at(made, judged, f, n)))
                for (word, what), (_, is_shown) in zip(told[f][n], shown(made, judged, f, n)):
                    self.assertEqual(word, "ring" if (f, n) in deads else "chain" if is_shown else "open")
                    self.assertTrue(word == "open" or 1 <= len(what) <= 40)
                    words.add(word)
        self.assertEqual(words, {"chain", "ring", "open"})

    def test_of_programs_of_which_nothing_goes(self):
        made = by_text("fn main number", "let x call f", "give x", "fn f number", "let x call f", "give x")
        strikes, told = self.check(made)
        self.assertEqual(strikes, ())
        self.assertEqual([[len(things) for things in of_function] for of_function in told], [[0, 6], [0, 6]])

    def test_nothing_needed(self):
        made = by_text("fn main number n:number m:number", "let x sum n m", "give x")
        strikes, told = self.check(made)
        self.assertEqual((len(strikes), told), (36, (((), ()),)))

    def test_a_long_chain_and_a_long_ring(self):
        names = "abcdefghij"
        body = ("must", at("j", 4), at("n"), ("give", at("n")))
        for name, ahead in list(zip(names, "n" + names))[::-1]:
            body = let(name, ("be", at(ahead, -1)), body)
        made = need_program(program(function(body, params=numbers("n"))))
        _, told = self.check(made)
        self.assertEqual(len(told[0][10][0][1]), 10)
        body = ("must", at("n"), at("i"), ("give", at("n")))
        for name, ahead in list(zip("abcdefghi", "nabcdefgh"))[::-1]:
            body = let(name, ("be", at(ahead, -1)), body)
        made = need_program(program(function(let("z", ("be", ATOM), body), params=numbers("n"))))
        _, told = self.check(made)
        self.assertEqual({len(places) for word, places in told[0][11]}, {10})
        self.assertEqual({word for word, _ in told[0][11]}, {"ring"})

    def test_told_is_a_tuple_of_tuples_alike_each_time(self):
        for made in (MIXED, by_text("fn main number n:number r:row", "let x part r n", "must 1 0", "give x")):
            told = self.check(made)
            self.assertEqual(told, paper_of(copy.deepcopy(made)))
            self.assertEqual([type(told)] + [type(part) for part in told], [tuple] * 3)
            hash(told)

    def test_refusals(self):
        for thing in anything():
            with self.assertRaises(BadProgram):
                paper_of(thing)
        with self.assertRaises(BadProgram) as told:
            paper_of(program(function(name="m"), function(chain(13))))
        self.assertEqual(told.exception.place, 1)


class Great(unittest.TestCase):
    """Programs of 4 functions and 12 nodes each, of many rounds, of all that stands, of nothing that does."""

    def made(self, chance, kinds, names):
        params = tuple(zip("xyz", kinds))
        functions = []
        for f, name in enumerate(names):
            callees = names[f + 1:] if chance.random() < 0.6 else names[1:]
            functions.append(self.function(chance, name, params, callees))
        return need_program(((), tuple(functions)))

    def function(self, chance, name, params, callees):
        kinds = dict(params)
        nodes = []
        for k in range(11):
            right = ("be", self.arg(chance, kinds, "number"))
            if callees and k != 5:
                right = ("call", chance.choice(callees), tuple(self.arg(chance, kinds, kind) for _, kind in params))
            nodes.append(("let", "c" + "abcdefghijk"[k], right))
            if k == 5 and "row" in kinds.values():
                nodes[-1] = ("let", "cf", ("part", self.arg(chance, kinds, "row")[1], at(nodes[-2][1])))
            kinds[nodes[-1][1]] = "number"
        body = ("give", self.arg(chance, kinds, "number"))
        for node in nodes[::-1]:
            body = (*node, body)
        return name, params, "number", body

    def arg(self, chance, kinds, kind):
        among = [name for name in kinds if kinds[name] == kind]
        if kind == "row":
            return row(chance.choice(among))
        return at(chance.choice(among), chance.randint(-4, 4)) if among and chance.random() < 0.6 else ("num", chance.randint(-4, 4))

    def test_in_a_short_time(self):
        chance = random.Random(43)
        most = 0
        for kinds in (("number",) * 3, ("row",) * 3, ("number", "row", "number")):
            for _ in range(8):
                made = self.made(chance, kinds, ("main", "fa", "fb", "fc"))
                start = time.process_time()
                paper = paper_of(made)
                told = check_paper(made, paper)
                self.assertLess(time.process_time() - start, SHORT)
                self.assertEqual(told, (standing(made), tuple(open_nodes(made))))
                most = max(most, len(paper[0]))
        self.assertGreater(most, 900)


if __name__ == "__main__":
    unittest.main()
