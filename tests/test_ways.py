"""Points 10, 12 and 15: terms of entries and ends, what is judged, pools, candidates; sayings with terms put."""

import copy
import unittest

from strikehall.errors import BadJudged, BadProgram, BadQuestion
from strikehall.programs import need_program
from strikehall.strikes import all_struck, holds_by, left_of, lies_within, rounds_of, struck_at
from strikehall.ways import (
    candidates, end_terms, entry_terms, facts_at, need_judged, needed_at, pool_of, put_in)
from tests.making import Maker
from tests.samples import (
    ATOM, GIVE, HUGE, MIXED, Number, Pair, Text, anything, at, function, let, numbers, program, row, rows)

BAD = program(function(), function(("give",)))


class Pools(unittest.TestCase):
    def pool(self, body, given=(), params=numbers("n") + rows("r"), out="number"):
        other = function(name="g", params=numbers("n") + rows("r"), out="row", body=("give", row("r")))
        return pool_of(program(function(body, params=params, out=out), other, given=given))

    def test_always(self):
        self.assertEqual(self.pool(GIVE), (-1, 0, 1))
        self.assertEqual(self.pool(("give", row("r")), out="row"), (-1, 0, 1))
        self.assertEqual(pool_of(program(function(("give", row("r")), params=rows("r"), out="row"))), (-1, 0, 1))

    def test_each_c_of_an_atom(self):
        for c in range(-4, 5):
            told = tuple(sorted({-1, 0, 1, c}))
            for atom in (("num", c), at("n", c)):
                for body in [("give", atom), ("must", atom, ATOM, GIVE), ("must", ATOM, atom, GIVE),
                             ("if", atom, ATOM, GIVE, GIVE), ("if", ATOM, atom, GIVE, GIVE),
                             ("if", ATOM, ATOM, ("give", atom), GIVE), ("if", ATOM, ATOM, GIVE, ("give", atom)),
                             let("x", ("be", atom)), let("x", ("sum", atom, ATOM)), let("x", ("sum", ATOM, atom)),
                             let("x", ("part", "r", atom)), let("x", ("with", "r", atom, ATOM)),
                             let("x", ("with", "r", ATOM, atom)), let("x", ("cut", "r", atom)),
                             let("x", ("call", "g", (atom, row("r")))), let("x", ("long", "r"), ("give", atom))]:
                    self.assertEqual(self.pool(body), told, body)

    def test_given(self):
        for c in range(-4, 5):
            for saying in (("", "n", c), ("n", "#r", c)):
                self.assertEqual(self.pool(GIVE, given=(saying,)), tuple(sorted({-1, 0, 1, c})))
        self.assertEqual(self.pool(GIVE, given=(("", "n", 4), ("n", "", -4), ("", "n", 4))), (-4, -1, 0, 1, 4))

    def test_of_all_functions_rising_each_once(self):
        made = program(function(("give", ("num", 4)), name="m"), function(("give", at("a", -3)), params=numbers("a")),
                       function(("must", ("num", 2), ("num", 4), GIVE), name="h"))
        self.assertEqual(pool_of(made), (-3, -1, 0, 1, 2, 4))
        self.assertEqual(pool_of(MIXED), (-4, -1, 0, 1, 2, 4))
        self.assertIs(type(pool_of(MIXED)), tuple)


class Terms(unittest.TestCase):
    def test_of_entries_and_ends(self):
        for params, entry in [((), [""]), (numbers("a"), ["", "a"]), (rows("r"), ["", "#r"]),
                              (numbers("b") + rows("a") + numbers("c"), ["", "#a", "b", "c"]),
                              (numbers("zz", "z", "a"), ["", "a", "z", "zz"]), (rows("z", "ou"), ["", "#ou", "#z"])]:
            for out, term in (("number", "out"), ("row", "#out")):
                body = let("x", ("call", "f", tuple(("row", name) if kind == "row" else at(name) for name, kind in params)),
                           ("give", row("x") if out == "row" else at("x")))
                made = program(function(name="m"), function(body, params=params, out=out))
                self.assertEqual(entry_terms(made, 1), tuple(sorted(entry)))
                self.assertEqual(end_terms(made, 1), tuple(sorted(entry + [term])))
                self.assertEqual(entry_terms(made, 0), ("",))
                self.assertEqual(end_terms(made, 0), ("", "out"))

    def test_of_mixed(self):
        self.assertEqual([entry_terms(MIXED, f) for f in range(3)], [("", "#r", "a"), ("", "#s", "n"), ("", "#r")])
        self.assertEqual([end_terms(MIXED, f) for f in range(3)],
                         [("", "#r", "a", "out"), ("", "#s", "n", "out"), ("", "#out", "#r")])

    def test_no_functions_number(self):
        for call in (entry_terms, end_terms):
            for f in [-1, 3, 4, HUGE, True, False, Number(0), None, "0"] + [
                    thing for thing in anything() if type(thing) is not int or not 0 <= thing < 3]:
                with self.assertRaises(BadQuestion):
                    call(MIXED, f)
            for number, truth in ((0, False), (1, True)):
                call(MIXED, number)
                with self.assertRaises(BadQuestion):
                    call(MIXED, truth)


class Candidates(unittest.TestCase):
    def test_by_hand(self):
        made = program(function(name="m", params=numbers("a"), body=("give", ("num", 2))), function(name="f"),
                       given=(("a", "", 0), ("", "a", 1), ("a", "", 0)))
        pool = (-1, 0, 1, 2)
        end = tuple((one, other, c) for one in ("", "a", "out") for other in ("", "a", "out") if one != other for c in pool)
        other = tuple((one, two, c) for one, two in (("", "out"), ("out", "")) for c in pool)
        self.assertEqual(candidates(made), (((("", "a", 1), ("a", "", 0)), end), ((), other)))

    def test_given_rising_each_once(self):
        made = program(function(params=numbers("a", "b")), given=(("b", "a", 2), ("a", "b", 3), ("b", "a", 2), ("a", "b", -3)))
        self.assertEqual(candidates(made)[0][0], (("a", "b", -3), ("a", "b", 3), ("b", "a", 2)))
        self.assertEqual(candidates(program(function(params=numbers("a", "b"))))[0][0], ())

    def test_all_of_terms_and_pool(self):
        for made in [Maker(seed).program() for seed in range(100)] + [MIXED]:
            told = candidates(made)
            self.assertIs(need_judged(made, told), told)
            pool = pool_of(made)
            for f, (entry, end) in enumerate(told):
                for sayings, terms in ((entry, entry_terms(made, f)), (end, end_terms(made, f))):
                    if f == 0 and sayings is entry:
                        self.assertEqual(entry, tuple(sorted(set(made[0]))))
                        continue
                    self.assertEqual(len(sayings), len(terms) * (len(terms) - 1) * len(pool))
                    self.assertEqual(list(sayings), sorted(
                        {(one, other, c) for one in terms for other in terms if one != other for c in pool}))


class Judged(unittest.TestCase):
    MADE = need_program(program(
        function(name="m", params=numbers("a") + rows("r")), function(params=rows("r"), out="row", body=("give", row("r")))))
    CALLS = [need_judged, lambda made, judged: facts_at(made, judged, 0, 0),
             lambda made, judged: needed_at(made, judged, 0, 0), lambda made, judged: struck_at(made, judged, 0, 0),
             all_struck, holds_by, rounds_of, left_of, lambda made, judged: lies_within(made, judged, ((), ()) * 2),
             lambda made, judged: lies_within(made, (((), ()),) * 2, judged)]

    def refused(self, judged):
        for call in self.CALLS:
            with self.assertRaises(BadJudged) as told:
                call(self.MADE, judged)
            self.assertIs(type(told.exception), BadJudged)

    def taken(self, judged):
        self.assertIs(need_judged(self.MADE, judged), judged)
        for call in self.CALLS[1:-2] + self.CALLS[-1:]:
            call(self.MADE, judged)

    def test_good_ones(self):
        self.taken((((), ()), ((), ())))
        self.taken((((("", "a", 0), ("a", "#r", -5)), (("a", "out", 0),)), ((("#r", "", 3),), (("#out", "#r", 0),))))
        self.taken((((("", "a", -HUGE), ("", "a", HUGE)), ()), ((), (("", "#out", 10 ** 299 * 9),))))

    def each(self, sayings, at_entry=True):
        """JUDGED with these sayings at each entry, or at each end."""
        first = (sayings, ()) if at_entry else ((), sayings)
        return [(first, ((), ())), (((), ()), first)]

    def test_other_terms(self):
        for one, other in [("a", "b"), ("a", "out"), ("#a", "#r"), ("r", "#r"), ("a", "#out"), ("a", "a"), ("", ""),
                           ("#r", "#r"), (Text(""), "#r"), ("", Text("#r")), (0, "#r"), ("", None), ("0", "#r"), ("", "##r")]:
            for judged in self.each(((one, other, 0),)):
                self.refused(judged)
        self.refused(((((), ())), ((("", "a", 0),), ())))
        for one, other in (("", "#out"), ("out", "#out"), ("a", "b")):
            self.refused((((), ((one, other, 0),)), ((), ())))
        for one, other in (("", "out"), ("out", "#out"), ("", "a")):
            self.refused((((), ()), ((), ((one, other, 0),))))

    def test_not_rising(self):
        for sayings in [(("", "#r", 0), ("", "#r", 0)), (("", "#r", 1), ("", "#r", 0)), (("#r", "", 0), ("", "#r", 0)),
                        (("", "#r", 0), ("#r", "", 0), ("", "#r", 1)), (("", "#r", 0), ("#r", "", 0), ("#r", "", 0))]:
            for at_entry in (True, False):
                for judged in self.each(sayings, at_entry):
                    self.refused(judged)

    def test_other_sayings(self):
        for saying in [("", "#r"), ("", "#r", 0, 0), ["", "#r", 0], ("", "#r", True), ("", "#r", False), ("", "#r", None),
                       ("", "#r", "0"), Pair(("", "#r", 0)), ("", "#r", Number(0)), None, 0, "", (), ("", "", -1)]:
            for at_entry in (True, False):
                for judged in self.each((saying,), at_entry):
                    self.refused(judged)

    def test_other_forms(self):
        good = ((), ())
        for judged in [(), (good,), (good, good, good), [good, good], (good, [(), ()]), (good, ((),)), (good, ((), (), ())),
                       (good, ([], ())), (good, ((), [])), (good, ((), {})), (good, ((), "")), (good, None), None, 0, "", {},
                       Pair((good, good)), (good, Pair(good)), (good, (Pair(), ())), ((), ()), (good, (None, ()))]:
            self.refused(judged)

    def test_anything(self):
        good = ((), ())
        for thing in anything():
            self.refused(thing)
            if type(thing) is not tuple or thing != good:
                self.refused((good, thing))
                self.refused((thing, good))
            if type(thing) is not tuple or thing != ():
                self.refused((good, (thing, ())))
                self.refused((good, ((), thing)))
            self.refused((good, ((thing,), ())))
            if type(thing) is not int:
                self.refused((good, ((("", "#r", thing),), ())))

    def test_truths_right_behind_numbers(self):
        for number, truth in ((0, False), (1, True)):
            for at_entry in (True, False):
                for good, bad in zip(self.each((("", "#r", number),), at_entry), self.each((("", "#r", truth),), at_entry)):
                    self.taken(good)
                    self.refused(bad)
                    self.taken(good)

    def test_the_program_ahead_of_it(self):
        for judged in (None, (), (((), ()),)):
            for call in self.CALLS:
                with self.assertRaises(BadProgram) as told:
                    call(BAD, judged)
                self.assertEqual(told.exception.place, 1)

    def test_it_ahead_of_the_question(self):
        for call in (facts_at, needed_at, struck_at):
            for f, n in ((None, None), (9, 0), (0, 99), (True, 0), (0, True)):
                with self.assertRaises(BadProgram):
                    call(BAD, None, f, n)
                with self.assertRaises(BadJudged):
                    call(self.MADE, ((), ()), f, n)

    def test_no_functions_or_nodes_number(self):
        judged = candidates(MIXED)
        for call in (facts_at, needed_at, struck_at):
            for f, many in ((0, 9), (1, 6), (2, 1)):
                for n in range(many):
                    call(MIXED, judged, f, n)
                for n in (-1, many, many + 1, HUGE, True, False, Number(0), None, "0", (0,)):
                    with self.assertRaises(BadQuestion):
                        call(MIXED, judged, f, n)
            for f in [-1, 3, HUGE, True, False, Number(0), None, "0", (0,)]:
                with self.assertRaises(BadQuestion):
                    call(MIXED, judged, f, 0)
            for thing in anything():
                if type(thing) is not int or not 0 <= thing < 3:
                    with self.assertRaises(BadQuestion):
                        call(MIXED, judged, thing, 0)
                    with self.assertRaises(BadQuestion):
                        call(MIXED, judged, 2, thing)

    def test_of_no_program(self):
        for call in [pool_of, candidates, lambda made: entry_terms(made, 0), lambda made: end_terms(made, None)]:
            with self.assertRaises(BadProgram):
                call(BAD)
            for thing in anything():
                with self.assertRaises(BadProgram):
                    call(thing)

    def test_nothing_handed_in_is_changed(self):
        judged = candidates(MIXED)
        kept = copy.deepcopy((MIXED, judged))
        for call in (facts_at, needed_at, struck_at):
            call(MIXED, judged, 0, 8)
        for call in (all_struck, holds_by, rounds_of, left_of):
            call(MIXED, judged)
        self.assertEqual((MIXED, judged), kept)


class Put(unittest.TestCase):
    def test_one_term(self):
        for c in (-3, 0, 2):
            self.assertEqual(put_in((("a", "b", c),), {"a": ("x", 4)}), (("x", "b", c - 4),))
            self.assertEqual(put_in((("a", "b", c),), {"b": ("x", 4)}), (("a", "x", c + 4),))
            self.assertEqual(put_in((("a", "b", c),), {"c": ("x", 4)}), (("a", "b", c),))
            self.assertEqual(put_in((("a", "b", c),), {}), (("a", "b", c),))

    def test_both_terms(self):
        places = {"a": ("b", 2), "b": ("a", -3), "out": ("#x", 0)}
        self.assertEqual(put_in((("a", "b", 1), ("b", "a", 1), ("out", "a", 0), ("b", "out", 0)), places),
                         (("b", "a", -4), ("a", "b", 6), ("#x", "b", 2), ("a", "#x", 3)))

    def test_nought(self):
        self.assertEqual(put_in((("a", "", 1), ("", "a", 1)), {"a": ("b", 2)}), (("b", "", -1), ("", "b", 3)))
        self.assertEqual(put_in((("a", "b", 1), ("b", "a", 1)), {"a": ("", 2)}), (("", "b", -1), ("b", "", 3)))
        self.assertEqual(put_in((("a", "", 1),), {"": ("z", 5)}), (("a", "z", 6),))

    def test_one_term_twice(self):
        for c in range(-4, 5):
            left = put_in((("a", "b", c),), {"a": ("x", 1), "b": ("x", 2)})
            self.assertEqual(left, () if c + 1 >= 0 else (("", "", c + 1),))
            left = put_in((("a", "b", c),), {"a": ("", 3), "b": ("", 0)})
            self.assertEqual(left, () if c - 3 >= 0 else (("", "", c - 3),))
            self.assertEqual(put_in((("a", "b", c),), {"a": ("b", 0)}), () if c >= 0 else (("", "", c),))
            self.assertEqual(put_in((("", "b", c),), {"b": ("", -2)}), () if c - 2 >= 0 else (("", "", c - 2),))

    def test_what_is_so_of_no_numbers(self):
        for places in ({}, {"a": ("b", 1)}, {"": ("a", 4)}, {"": ("", 0)}):
            self.assertEqual(put_in((("", "", -2),), places), (("", "", -2),))

    def test_in_order_each_as_often_as_it_comes(self):
        sayings = (("b", "a", 0), ("a", "b", 0), ("b", "a", 0), ("", "", -1), ("a", "c", 5))
        self.assertEqual(put_in(sayings, {"c": ("a", 0)}), sayings[:4])
        self.assertEqual(put_in(sayings, {}), sayings)
        self.assertEqual(put_in((), {"a": ("b", 1)}), ())

    def test_great_numbers(self):
        great = 10 ** 300 - 1
        self.assertEqual(put_in((("a", "b", great),), {"a": ("x", -great), "b": ("y", great)}), (("x", "y", 3 * great),))
        self.assertEqual(put_in((("a", "b", -great),), {"a": ("x", great), "b": ("x", 0)}), (("", "", -2 * great),))

    def test_nothing_handed_in_is_changed(self):
        sayings, places = (("a", "b", 1), ("b", "c", 0)), {"a": ("x", 1), "b": ("x", 1)}
        kept = copy.deepcopy((sayings, places))
        self.assertIs(type(put_in(sayings, places)), tuple)
        self.assertEqual((sayings, places), kept)


if __name__ == "__main__":
    unittest.main()
