"""Points 31 and 32: which papers are let by, and where others are refused."""

import copy
import random
import time
import unittest

from strikehall.checking import check_paper
from strikehall.errors import BadPaper, BadProgram
from strikehall.papers import numbers_against, paper_of
from strikehall.programs import need_program, nodes_of
from strikehall.sayings import chain_for, ring_for
from strikehall.shown import open_nodes
from strikehall.strikes import standing
from strikehall.ways import candidates, facts_at, needed_at
from tests.making import Maker
from tests.naive import all_nodes, nodes_with_ways
from tests.naive_papers import place_at_fault, strikes_in_turn
from tests.samples import HUGE, MIXED, Number, Odd, Pair, Text, anything, chain, function, numbers, program
from tests.test_facts import by_text


def by_hand(made, strikes):
    """A paper of these strikes, behind which all that stands is shown by chains and rings that are looked for one by one."""
    judged = standing(made)
    told = []
    for f, (_, _, _, body) in enumerate(made[1]):
        told.append([])
        for n, _, _ in nodes_with_ways(body):
            facts = facts_at(made, judged, f, n)
            told[-1].append(tuple(thing_for(made, judged, f, n, k, facts) for k in range(len(needed_at(made, judged, f, n)))))
    return strikes, tuple(tuple(of_function) for of_function in told)


def thing_for(made, judged, f, n, k, facts):
    ring = ring_for(facts)
    if ring is not None:
        return "ring", tuple(ring)
    places = chain_for(facts, needed_at(made, judged, f, n)[k])
    return ("open", numbers_against(made, judged, f, n, k)) if places is None else ("chain", tuple(places))


class Base(unittest.TestCase):
    def refused(self, made, paper, *place):
        with self.assertRaises(BadPaper) as told:
            check_paper(made, paper)
        self.assertEqual(told.exception.place, place)
        self.assertEqual([type(part) for part in told.exception.place], [str] + [int] * (len(place) - 1))

    def good(self, made, paper):
        told = check_paper(made, paper)
        self.assertEqual(told, (standing(made), tuple(open_nodes(made))))
        self.assertEqual([type(part) for part in told], [tuple, tuple])


class Written(Base):
    """A program and a paper that are short enough to be written down whole."""

    MADE = by_text("given 0 n 0", "fn main number n:number r:row", "let x part r n", "give x")
    # Of the pool -1, 0, 1 all goes but that r has no fewer numbers than none, and n no fewer.
    NUMBERS = (("#r", 9), ("n", 0), ("x", 0))

    def paper(self):
        strikes = []
        for one, other in [("", "#r"), ("", "n"), ("", "out"), ("#r", ""), ("#r", "n"), ("#r", "out"), ("n", ""), ("n", "#r"),
                           ("n", "out"), ("out", ""), ("out", "#r"), ("out", "n")]:
            for most in (-1, 0, 1):
                worths = self.against(one, other, most)
                if worths is not None:
                    strikes.append((0, "end", (one, other, most), 0, 1, worths))
        return tuple(strikes), (((("chain", (0,)), ("open", (("#r", 0), ("n", 0)))), self.kept()),)

    def against(self, one, other, most):
        """Small numbers that fit behind the part, n from 0 on, below how many r has."""
        for r in range(1, 6):
            for n in range(r):
                for x in (-9, 9):
                    worths = {"": 0, "#r": r, "n": n, "out": x}
                    if worths[one] > worths[other] + most:
                        return (("#r", r), ("n", n), ("x", x))
        return None

    def kept(self):
        # The facts are: 0 is no more than n, than #r, than n, and n no more than #r-1.
        chains = {("", "#r", -1): (0, 3), ("", "#r", 0): (1,), ("", "#r", 1): (1,), ("", "n", 0): (2,), ("", "n", 1): (0,),
                  ("n", "#r", -1): (3,), ("n", "#r", 0): (3,), ("n", "#r", 1): (3,)}
        return tuple(("chain", chains[saying]) for saying in sorted(chains))

    def test_it_is_let_by(self):
        judged = (((("", "n", 0),), (("", "#r", -1), ("", "#r", 0), ("", "#r", 1), ("", "n", 0), ("", "n", 1), ("n", "#r", -1),
                                      ("n", "#r", 0), ("n", "#r", 1))),)
        self.assertEqual(check_paper(self.MADE, self.paper()), (judged, ((0, 0),)))
        self.good(self.MADE, self.paper())

    def test_strikes_in_any_order(self):
        chance = random.Random(51)
        strikes, told = self.paper()
        for _ in range(20):
            self.good(self.MADE, (tuple(chance.sample(strikes, len(strikes))), told))

    def test_a_strike_too_few(self):
        strikes, told = self.paper()
        for k in range(len(strikes)):
            self.refused(self.MADE, (strikes[:k] + strikes[k + 1:], told), "shown")
        # What is struck nowhere stands yet, so one need more is there, at the give, that nothing shows.
        left = tuple(strike for strike in strikes if strike[2] != ("out", "n", 1))
        for thing in (("chain", (0,)), ("ring", (0,)), ("open", self.against("out", "n", 1))):
            self.refused(self.MADE, (left, ((told[0][0], told[0][1] + (thing,)),)), "shown", 0, 1, 8)

    def test_a_strike_twice(self):
        strikes, told = self.paper()
        for k in range(len(strikes)):
            self.refused(self.MADE, (strikes[:k + 1] + strikes[k:], told), "strike", k + 1)
            self.refused(self.MADE, (strikes + strikes[k:k + 1], told), "strike", len(strikes))

    def test_what_stands_is_not_struck(self):
        strikes, told = self.paper()
        for saying in (("", "n", 0), ("n", "#r", -1), ("", "#r", 1)):
            for worths in (self.NUMBERS, (("#r", 0), ("n", 0), ("x", 0)), (("#r", 1), ("n", -1), ("x", 0))):
                self.refused(self.MADE, (strikes + ((0, "end", saying, 0, 1, worths),), told), "strike", len(strikes))

    def test_open_numbers(self):
        strikes, ((needed, kept),) = self.paper()
        for r, n, good in [(0, 0, True), (1, 1, True), (5, 7, True), (0, -1, False), (1, 0, False), (-1, 0, False),
                           (HUGE, HUGE, True)]:
            paper = (strikes, (((needed[0], ("open", (("#r", r), ("n", n)))), kept),))
            if good:
                self.good(self.MADE, paper)
            else:
                self.refused(self.MADE, paper, "shown", 0, 0, 1)
        for thing in [(), (("n", 0),), (("#r", 0), ("n", 0), ("x", 0)), (("n", 0), ("#r", 0)), (("#r", False), ("n", 0)),
                      (("#r", 0), ("n", True))] + anything():
            self.refused(self.MADE, (strikes, (((needed[0], ("open", thing)), kept),)), "shown", 0, 0, 1)

    def test_what_is_shown_is_not_open(self):
        strikes, ((needed, kept),) = self.paper()
        for worths in ((("#r", 0), ("n", 0)), (("#r", 0), ("n", -1))):
            self.refused(self.MADE, (strikes, (((("open", worths), needed[1]), kept),)), "shown", 0, 0, 0)

    def test_open_at_a_give(self):
        strikes, ((needed, kept),) = self.paper()
        for k in range(len(kept)):
            thing = ("open", self.NUMBERS)
            self.refused(self.MADE, (strikes, ((needed, kept[:k] + (thing,) + kept[k + 1:]),)), "shown", 0, 1, k)

    def places(self, k, places, good):
        """The k-th thing of the give is a chain of these places."""
        strikes, ((needed, kept),) = self.paper()
        paper = (strikes, ((needed, kept[:k] + (("chain", places),) + kept[k + 1:]),))
        if good:
            self.good(self.MADE, paper)
        else:
            self.refused(self.MADE, paper, "shown", 0, 1, k)

    def test_chains(self):
        # For 0 no more than #r-1: just by n.
        for places in ((0, 3), (2, 3)):
            self.places(0, places, True)
        for places in ((), (0,), (3,), (1,), (3, 0), (0, 1), (0, 0, 3), (0, 3, 3), (0, 4), (0, -1), (4,), (0, True),
                       (False, 3), (0, None),
                       [0, 3], (0, "3"), (0, Number(3)), Pair((0, 3)), ((0, 3),), None, 0, "03", (HUGE, 3)):
            self.places(0, places, False)
        for thing in anything():
            self.places(0, thing, False)
        for places in ((1,), (0, 3), (2, 3)):
            self.places(1, places, True)
            self.places(2, places, True)
        # For 0 no more than n: a chain that comes to less will do, one that leads elsewhere won't.
        for places, good in (((0,), True), ((2,), True), ((1,), False), ((3,), False), ((0, 3), False)):
            self.places(3, places, good)
            self.places(4, places, good)

    def test_words(self):
        strikes, ((needed, kept),) = self.paper()
        for thing in [("ring", (0,)), ("ring", (0, 3)), ("open", (0,)), ("chains", (0, 3)), ("", (0, 3)), ("Chain", (0, 3)),
                      (Text("chain"), (0, 3)), (b"chain", (0, 3)), (0, (0, 3)), (None, (0, 3)), (Odd(), (0, 3)), ("chain",),
                      ("chain", 0, 3),
                      ("chain", (0, 3), ()), ["chain", (0, 3)], Pair(("chain", (0, 3))), (["chain"], (0, 3))] + anything():
            self.refused(self.MADE, (strikes, ((needed, (thing,) + kept[1:]),)), "shown", 0, 1, 0)

    def test_the_first_thing_that_shows_nothing(self):
        strikes, ((needed, kept),) = self.paper()
        self.refused(self.MADE, (strikes, ((needed[:1] + (None,), (None,) + kept[1:]),)), "shown", 0, 0, 1)
        self.refused(self.MADE, (strikes, ((needed, kept[:2] + (0, 0, 0) + kept[5:]),)), "shown", 0, 1, 2)

    def test_the_form_of_what_is_shown(self):
        strikes, ((needed, kept),) = self.paper()
        for told in [(), ((),), ((needed,),), ((needed, kept, ()),), ((needed, kept), ()), ((needed, kept),) * 2,
                     ((needed, kept[1:]),),
                     ((needed, kept + kept[:1]),), (((), kept),), (([], kept),), ((list(needed), kept),), ([needed, kept],), (None,),
                     ((needed, None),), (Pair((needed, kept)),), ((Pair(needed), kept),), ((needed[:1], (None,) * 8),)]:
            self.refused(self.MADE, (strikes, told), "shown")
        for thing in anything():
            self.refused(self.MADE, (strikes, (thing,)), "shown")
            self.refused(self.MADE, (strikes, ((needed, thing),)), "shown")

    def test_no_pair_of_tuples(self):
        strikes, told = self.paper()
        for paper in [(), (strikes,), (strikes, told, ()), [strikes, told], (list(strikes), told), (strikes, list(told)),
                      (strikes, None),
                      (None, told), Pair((strikes, told)), (Pair(strikes), told), (strikes, Pair(told))]:
            self.refused(self.MADE, paper, "form")
        for thing in anything():
            # Some of them are pairs of tuples by chance.
            if type(thing) is not tuple or [type(part) for part in thing[:3]] != [tuple, tuple]:
                self.refused(self.MADE, thing, "form")

    def test_form_ahead_of_strikes_ahead_of_what_is_shown(self):
        strikes, told = self.paper()
        self.refused(self.MADE, (strikes[:1] * 2, None), "form")
        self.refused(self.MADE, (strikes[:1] * 2, ()), "strike", 1)
        self.refused(self.MADE, (strikes[:5] + (None, None), ((None,),)), "strike", 5)
        self.refused(self.MADE, (strikes, ((None,),)), "shown")


class Strikes(Base):
    MADE = by_text("given 0 n 0", "fn main number n:number", "let x call f n 1", "if x 0", " let y call f x n", " give y", "else",
                   " let z call g n", " give z", "fn f number a:number b:number", "if a 0", " let u call f b a-1", " give u", "else",
                   " give b", "fn g number c:number", "let v call g c", "give v")

    def paper(self):
        return paper_of(self.MADE)

    def test_it_is_let_by(self):
        self.good(self.MADE, self.paper())

    def with_strike(self, k, strike):
        strikes, told = self.paper()
        return strikes[:k] + (strike,) + strikes[k + 1:], told

    def test_each_part_of_each_strike(self):
        strikes, _ = self.paper()
        parts = [True, False, None, -1, HUGE, "", "entry", "end", "Entry", Text("end"), Text("entry"), Number(0), Number(1),
                 Odd(), (), [],
                 ("", "", -1), ("a", "b"), ("n", "out", 99)]
        for k in range(0, len(strikes), 11):
            for at, part in enumerate(strikes[k]):
                for other in parts:
                    if type(other) is type(part) is str and other == part:
                        continue
                    changed = strikes[k][:at] + (other,) + strikes[k][at + 1:]
                    paper = self.with_strike(k, changed)
                    told = place_at_fault(self.MADE, candidates(self.MADE), (paper[0][:k + 1], ()))
                    if told[0] == "strike":
                        self.assertEqual(told, ("strike", k))
                        self.refused(self.MADE, paper, "strike", k)

    def test_no_strike_at_all(self):
        strikes, _ = self.paper()
        good = strikes[4]
        for thing in [good[:5], good + (0,), list(good), Pair(good), (), good[::-1]] + anything():
            self.refused(self.MADE, self.with_strike(4, thing), "strike", 4)
        for at in range(6):
            for thing in anything():
                if at in (0, 3, 4) and type(thing) is int and 0 <= thing < 9:
                    continue
                self.refused(self.MADE, self.with_strike(4, good[:at] + (thing,) + good[at + 1:]), "strike", 4)

    def test_sayings_by_their_parts(self):
        strikes, _ = self.paper()
        f, side, (one, other, most), g, n, worths = strikes[0]
        for saying in [(one, other, most, 0), (one, other), [one, other, most], Pair((one, other, most)), (Text(one), other, most),
                       (one, Text(other), most), (one, other, Number(most)), (other, one, 99), (one, one, most), (one, other, None),
                       (None, other, most), (one, [], most), (one, other, HUGE), ((one,), other, most)]:
            self.refused(self.MADE, self.with_strike(0, (f, side, saying, g, n, worths)), "strike", 0)
        for k, strike in enumerate(strikes):
            if strike[2][2] in (0, 1):
                saying = (*strike[2][:2], strike[2][2] == 1)
                self.refused(self.MADE, self.with_strike(k, (*strike[:2], saying, *strike[3:])), "strike", k)

    def test_the_first_functions_entry(self):
        strikes, told = self.paper()
        for n in range(len(nodes_of(self.MADE, 0))):
            for worths in ((("n", -1),), (("n", -1), ("x", 0)), (("n", -1), ("x", 0), ("y", 0)), (("n", -1), ("x", 9), ("z", 0))):
                self.refused(self.MADE, ((((0, "entry", ("", "n", 0), 0, n, worths),) + strikes), told), "strike", 0)
        made = by_text("given n 0 -1", "fn main number n:number", "give n")
        self.good(made, paper_of(made))

    def test_nodes_that_are_no_call_of_it_or_no_give(self):
        strikes, told = self.paper()
        for k, strike in enumerate(strikes):
            f, side, saying, g, n, worths = strike
            for h, m in all_nodes(self.MADE):
                node = nodes_of(self.MADE, h)[m]
                called = node[2][1] if node[0] == "let" and node[2][0] == "call" else None
                fitting = called == self.MADE[1][f][0] if side == "entry" else node[0] == "give" and h == f
                if not fitting:
                    self.refused(self.MADE, self.with_strike(k, (f, side, saying, h, m, worths)), "strike", k)

    def test_numbers_that_do_not_fit_or_for_which_it_is_so(self):
        strikes, _ = self.paper()
        chance = random.Random(52)
        many = {True: 0, False: 0}
        for k, strike in enumerate(strikes):
            worths = tuple((term, number + chance.randint(-2, 2)) for term, number in strike[5])
            paper = self.with_strike(k, (*strike[:5], worths))
            place = place_at_fault(self.MADE, candidates(self.MADE), (paper[0][:k + 1], ()))
            good = place != ("strike", k)
            many[good] += 1
            if good:
                self.good(self.MADE, paper)
            else:
                self.refused(self.MADE, paper, "strike", k)
        self.assertGreater(min(many.values()), 5)

    def test_numbers_that_fitted_once_fit_again_but_not_at_other_nodes(self):
        made = by_text("fn main number n:number", "if n 0", " let x call f n", " give x", "else", " let y call f n", " give y",
                       "fn f number a:number", "give 0")
        good = ((1, "entry", ("", "a", -1), 0, 1, (("n", 0),)), (1, "entry", ("", "a", 0), 0, 1, (("n", -5),)))
        more = ((1, "entry", ("", "a", 1), 0, 1, (("n", -5),)), (1, "entry", ("a", "", 0), 0, 3, (("n", 2),)))
        self.refused(made, (good + more, ()), "shown")
        self.refused(made, (good + ((1, "entry", ("", "a", 1), 0, 3, (("n", -5),)),), ()), "strike", 2)
        self.refused(made, (good + more + ((1, "entry", ("a", "", 1), 0, 1, (("n", 2),)),), ()), "strike", 4)
        self.refused(made, (good + ((1, "entry", ("", "a", 1), 0, 1, (("n", -1),)),), ()), "strike", 2)

    def test_truths_right_behind_numbers(self):
        made = by_text("fn main number n:number", "let x call f n", "give x", "fn f number a:number", "give 0")
        one = (1, "entry", ("", "a", -1), 0, 0, (("n", 0),))
        other = (1, "entry", ("", "a", 0), 0, 0, (("n", -1),))
        self.refused(made, ((one, other), ()), "shown")
        for bad in [(True,) + other[1:], other[:3] + (False,) + other[4:], other[:4] + (False,) + other[5:],
                    (1, "entry", ("", "a", False)) + other[3:]]:
            self.refused(made, ((one, bad), ()), "strike", 1)
        for bad in [(1, "entry", ("", "a", -1), 0, 0, (("n", False),))]:
            self.refused(made, ((bad,), ()), "strike", 0)
            self.refused(made, ((one, (1, "entry", ("a", "", -1), 0, 0, (("n", 0),)),
                                 (1, "entry", ("a", "", 0), 0, 0, (("n", True),))), ()),
                         "strike", 2)

    def test_cut_short(self):
        strikes, told = self.paper()
        for many in range(len(strikes)):
            with self.assertRaises(BadPaper) as refused:
                check_paper(self.MADE, (strikes[:many], told))
            self.assertEqual(refused.exception.place[0], "shown")
        for many in range(len(told)):
            self.refused(self.MADE, (strikes, told[:many]), "shown")

    def test_of_another_program(self):
        other = by_text("fn main number", "give 0")
        self.refused(other, self.paper(), "strike", 0)
        self.refused(other, ((), self.paper()[1]), "shown")


class Places(Base):
    """How many places there may be, some of them twice."""

    MADE = by_text("fn main number n:number", "let a be n", "must a n", "give a")

    def with_thing(self, n, thing):
        strikes, (told,) = paper_of(self.MADE)
        return strikes, (told[:n] + ((thing,) + told[n][1:],) + told[n + 1:],)

    def test_of_one_to_forty(self):
        # a is n, there and back again: ("a", "n", 0), ("n", "a", 0).
        self.assertEqual(facts_at(self.MADE, standing(self.MADE), 0, 1), (("a", "n", 0), ("n", "a", 0)))
        for many in range(45):
            paper = self.with_thing(1, ("chain", ((0, 1) * 30)[:many]))
            if many % 2 == 1 and many <= 40:
                self.good(self.MADE, paper)
            else:
                self.refused(self.MADE, paper, "shown", 0, 1, 0)

    def test_just_forty_and_one_more(self):
        made = by_text("given n m 0", "given m n 0", "given n 0 0", "fn main number n:number m:number", "must m 0", "give 0")
        strikes, (told,) = paper_of(made)
        judged = standing(made)
        self.assertEqual(facts_at(made, judged, 0, 0), (("m", "n", 0), ("n", "", 0), ("n", "m", 0)))
        for many in range(25):
            places = (0, 2) * many + (0, 1)
            paper = (strikes, ((("chain", places),),) + told[1:])
            self.assertEqual(len(places), 2 * many + 2)
            if len(places) <= 40:
                self.good(made, (paper[0], (paper[1],)))
            else:
                self.refused(made, (paper[0], (paper[1],)), "shown", 0, 0, 0)

    def test_a_ring(self):
        made = by_text("given n m -1", "given m n 0", "given 0 n 0", "fn main number n:number m:number", "must m 0", "give 0")
        strikes, (told,) = paper_of(made)
        self.assertEqual(facts_at(made, standing(made), 0, 0), (("", "n", 0), ("m", "n", 0), ("n", "m", -1)))

        def of(thing):
            return strikes, (((thing,),) + told[1:],)
        for places in ((1, 2), (2, 1), (1, 2) * 2, (2, 1) * 20):
            self.good(made, of(("ring", places)))
            self.refused(made, of(("chain", places)), "shown", 0, 0, 0)
        for places in ((), (1,), (2,), (0,), (1, 2, 1), (0, 2, 1), (1, 1), (2, 2), (1, 2) * 21, (2, 1, 0), (0, 1)):
            self.refused(made, of(("ring", places)), "shown", 0, 0, 0)
        # No numbers fit at a dead node.
        self.refused(made, of(("open", (("m", 1), ("n", 0)))), "shown", 0, 0, 0)

    def test_a_ring_that_comes_to_nought_is_none(self):
        made = by_text("given n m 0", "given m n 0", "fn main number n:number m:number", "must m 0", "give 0")
        strikes, (told,) = paper_of(made)
        self.assertEqual(told[0][0][0], "open")
        self.refused(made, (strikes, (((("ring", (0, 1)),),) + told[1:],)), "shown", 0, 0, 0)

    def test_what_no_numbers_fit_by_itself(self):
        made = by_text("given n 0 0", "fn main number n:number", "must 1 0", "must n 1", "give n")
        strikes, (told,) = paper_of(made)
        self.assertEqual(facts_at(made, standing(made), 0, 1), (("n", "", 0), ("", "", -1)))
        self.assertEqual(told[1], (("ring", (1,)),))

        def of(n, thing):
            return strikes, (told[:n] + ((thing,) + told[n][1:],) + told[n + 1:],)
        self.good(made, of(1, ("ring", (1,))))
        self.good(made, of(1, ("chain", (0,))))
        for thing in (("ring", (1, 1)), ("ring", (0, 1)), ("ring", (0,)), ("chain", (1,)), ("chain", (0, 1)), ("ring", ()),
                      ("ring", (2,))):
            self.refused(made, of(1, thing), "shown", 0, 1, 0)
        # A need that is a ("", "", C) has no chain, not one by what is so for no numbers, too.
        self.assertEqual(told[0][0][0], "open")
        twice = by_text("given n 0 0", "fn main number n:number", "must 1 0", "must 1 0", "give n")
        strikes, (told,) = paper_of(twice)
        self.good(twice, of(1, ("ring", (1,))))
        for thing in (("chain", (1,)), ("chain", (0,)), ("open", (("n", 0),))):
            self.refused(twice, of(1, thing), "shown", 0, 1, 0)

    def test_a_need_of_nought_and_itself_has_no_chain(self):
        made = by_text("given n m -1", "given m n 0", "fn main number n:number m:number", "must n n-1", "give 0")
        strikes, (told,) = paper_of(made)
        for places, word in (((0, 1), "ring"), ((1, 0), "ring")):
            self.good(made, (strikes, (((("ring", places),),) + told[1:],)))
            self.refused(made, (strikes, (((("chain", places),),) + told[1:],)), "shown", 0, 0, 0)


class Orders(Base):
    def test_by_hand_in_another_order(self):
        chance = random.Random(53)
        opens = 0
        for seed in range(60):
            made = Maker(seed).program()
            if sum(len(sayings) for pair in candidates(made) for sayings in pair) > 300:
                continue
            strikes, left = strikes_in_turn(made, candidates(made), chance, numbers_against)
            self.assertEqual(left, standing(made))
            paper = by_hand(made, strikes)
            self.good(made, paper)
            self.assertEqual(place_at_fault(made, candidates(made), paper), (left, tuple(open_nodes(made))))
            opens += open_nodes(made) != []
            # What the program tells itself is read like that, too.
            self.assertEqual(place_at_fault(made, candidates(made), paper_of(made)), (left, tuple(open_nodes(made))))
        self.assertGreater(opens, 3)

    def test_what_is_shown_by_hand_behind_strikes_that_are_told(self):
        for seed in range(60, 110):
            made = Maker(seed).program()
            self.good(made, by_hand(made, paper_of(made)[0]))


class Spoiled(Base):
    """Papers with one thing otherwise, at any place, held against a slow reader of papers."""

    OTHERS = [None, True, False, 0, 1, 2, -1, 7, "", "n", "chain", "ring", "open", "entry", "end", (), (0,), ((),), [], ("", "", -1)]

    def ways(self, thing, ahead=()):
        yield ahead
        if type(thing) is tuple:
            for k, part in enumerate(thing):
                yield from self.ways(part, ahead + (k,))

    def spoil(self, thing, way, chance):
        if way:
            k = way[0]
            return thing[:k] + (self.spoil(thing[k], way[1:], chance),) + thing[k + 1:]
        if type(thing) is int and chance.random() < 0.6:
            return thing + chance.choice((-2, -1, 1, 2))
        if type(thing) is tuple and len(thing) > 0 and chance.random() < 0.7:
            k, m = chance.randrange(len(thing)), chance.randrange(len(thing))
            return chance.choice((thing[:k] + thing[k + 1:], thing[:k] + thing[k:k + 1] + thing[k:],
                                  thing[:k] + (thing[m],) + thing[k + 1:]))
        return chance.choice(self.OTHERS)

    def test_one_thing_otherwise(self):
        chance = random.Random(54)
        told = {}
        for seed in range(200, 330):
            made = Maker(seed).program()
            begun = candidates(made)
            if sum(len(sayings) for pair in begun for sayings in pair) > 150:
                continue
            paper = paper_of(made)
            ways = list(self.ways(paper))
            for way in chance.sample(ways, min(len(ways), 25)) + [way for way in ways if way[:1] == (1,)][:25]:
                spoiled = self.spoil(paper, way, chance)
                wanted = place_at_fault(made, begun, spoiled)
                if type(wanted[0]) is str:
                    self.refused(made, spoiled, *wanted)
                    told[wanted[0]] = told.get(wanted[0], 0) + 1
                else:
                    self.assertEqual(check_paper(made, spoiled), wanted)
                    self.assertEqual(wanted[0], standing(made))
                    told["by"] = told.get("by", 0) + 1
        self.assertEqual(set(told), {"form", "strike", "shown", "by"})
        self.assertGreater(min(told.values()), 3)


class Refused(Base):
    def test_of_no_program(self):
        for thing in anything():
            with self.assertRaises(BadProgram):
                check_paper(thing, None)
        with self.assertRaises(BadProgram) as told:
            check_paper(program(function(name="m"), function(chain(13))), ())
        self.assertEqual(told.exception.place, 1)

    def test_nothing_handed_in_is_changed(self):
        paper = paper_of(MIXED)
        kept = copy.deepcopy(paper)
        for _ in range(2):
            self.good(MIXED, paper)
            self.assertEqual(paper, kept)

    def test_a_paper_of_many_things_that_are_none(self):
        start = time.process_time()
        self.refused(MIXED, ((None,) * 10 ** 5, ()), "strike", 0)
        self.refused(MIXED, (paper_of(MIXED)[0] + (0,) * 10 ** 5, ()), "strike", len(paper_of(MIXED)[0]))
        self.refused(MIXED, (paper_of(MIXED)[0], ((),) * 10 ** 5), "shown")
        self.assertLess(time.process_time() - start, 2.0)

    def test_great_numbers(self):
        made = need_program(program(function(params=numbers("n")), given=(("", "n", 0),)))
        strikes, told = paper_of(made)
        great = tuple((f, side, saying, g, n, (("n", HUGE),)) if saying[:2] == ("n", "") else (f, side, saying, g, n, worths)
                      for f, side, saying, g, n, worths in strikes)
        self.assertNotEqual(great, strikes)
        self.good(made, (great, told))


if __name__ == "__main__":
    unittest.main()
