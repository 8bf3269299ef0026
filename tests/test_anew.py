"""Points 50 to 52: things, what hangs on what, changes, what they touch, what stands anew."""

import random
import time
import unittest

from strikehall.anew import changed, hangs_on, hangs_straight, standing_anew, things_of, touched_by
from strikehall.errors import BadJudged, BadProgram, BadQuestion
from strikehall.programs import is_program, need_program
from strikehall.strikes import left_of, standing
from strikehall.ways import candidates
from tests.making import Maker
from tests.naive_changes import hung, straight, things, touched
from tests.naive_changes import changed as changed_slowly
from tests.samples import ATOM, GIVE, HUGE, MIXED, Number, Pair, Text, anything, at, chain, function, let, numbers, program, row, rows
from tests.test_facts import by_text

SHORT = 3.0


def change_of(made, seed, chance):
    """A change of the program by a function of another one, or of its own; what comes is a program, else None is told."""
    other = Maker(seed + 10 ** 6).program()
    f = chance.randint(0, len(made[1]))
    change = ("drop",)
    if chance.random() < 0.8:
        name, params, out, body = chance.choice(other[1] + made[1])
        if f < len(made[1]) and chance.random() < 0.7:
            name = made[1][f][0]
        change = ("put", f, (name, params, out, body))
    return change if is_program(changed_slowly(made, change)) else None


def spoil_atoms(thing, chance):
    """The body with some numbers otherwise."""
    if type(thing) is tuple and thing[:1] in (("num",), ("at",)) and chance.random() < 0.5:
        return thing[:-1] + (chance.choice((-1, 0, 1, thing[-1])),)
    return tuple(spoil_atoms(part, chance) for part in thing) if type(thing) is tuple else thing


class Things(unittest.TestCase):
    def test_all_but_the_first_entry_rising(self):
        self.assertEqual(things_of(program(function())), ((0, "end"),))
        self.assertEqual(things_of(MIXED), ((0, "end"), (1, "end"), (1, "entry"), (2, "end"), (2, "entry")))
        four = program(*[function(name=name) for name in "abcd"])
        self.assertEqual(things_of(four), things(four))
        self.assertEqual(len(things_of(four)), 7)

    def test_refusals(self):
        for thing in anything():
            with self.assertRaises(BadProgram):
                things_of(thing)


class Hangs(unittest.TestCase):
    def told(self, made, f, side):
        self.assertIs(type(hangs_on(made, f, side)), tuple)
        return hangs_straight(made, f, side), hangs_on(made, f, side)

    def test_of_functions_that_call_none(self):
        made = by_text("fn main number n:number", "give n", "fn f number a:number", "give a", "fn g number b:number", "give b")
        self.assertEqual(self.told(made, 0, "end"), ((), ()))
        self.assertEqual(self.told(made, 1, "end"), (((1, "entry"),),) * 2)
        self.assertEqual(self.told(made, 1, "entry"), ((), ()))

    def test_of_a_function_that_calls_itself(self):
        made = by_text("fn main number", "let x call f 0", "give x", "fn f number n:number", "if n 0", " give 0", "else",
                       " let x call f n-1", " let y call f x", " give y")
        self.assertEqual(self.told(made, 1, "entry"), (((1, "end"),),) + (((1, "end"), (1, "entry")),))
        self.assertEqual(self.told(made, 1, "end"), (((1, "entry"),),) + (((1, "end"), (1, "entry")),))
        self.assertEqual(self.told(made, 0, "end"), (((1, "end"),), ((1, "end"), (1, "entry"))))
        # Without a call ahead on the way to that of itself, nothing leads back.
        made = by_text("fn main number", "let x call f 0", "give x", "fn f number n:number", "let x call f n-1", "give x")
        self.assertEqual(self.told(made, 1, "entry"), ((), ()))
        self.assertEqual(self.told(made, 1, "end"), (((1, "entry"),),) * 2)

    def test_of_functions_that_call_one_another(self):
        made = by_text("fn main number n:number", "let x call f n", "give x", "fn f number a:number", "let y call g a", "give y",
                       "fn g number b:number", "let z call f b", "give z", "fn h number c:number", "let u call g c", "give u")
        self.assertEqual(self.told(made, 1, "entry"), (((2, "entry"),), ((1, "entry"), (2, "entry"), (3, "entry"))))
        self.assertEqual(self.told(made, 2, "entry"), (((1, "entry"), (3, "entry")), ((1, "entry"), (2, "entry"), (3, "entry"))))
        self.assertEqual(self.told(made, 3, "entry"), ((), ()))
        self.assertEqual(self.told(made, 1, "end"), (
            ((1, "entry"), (2, "end")), ((1, "end"), (1, "entry"), (2, "end"), (2, "entry"), (3, "entry"))))
        self.assertEqual(self.told(made, 0, "end"), (
            ((1, "end"),), ((1, "end"), (1, "entry"), (2, "end"), (2, "entry"), (3, "entry"))))

    def test_just_what_is_ahead_on_the_way(self):
        made = by_text("fn main number", "if 0 1", " let x call f", " let y call g x", " let z call h", " give z", "else",
                       " let u call h", " let v call g u", " give v", "fn f number", "give 0", "fn g number a:number", "give a",
                       "fn h number", "give 1")
        self.assertEqual(hangs_straight(made, 2, "entry"), ((1, "end"), (3, "end")))
        self.assertEqual(hangs_straight(made, 3, "entry"), ((1, "end"), (2, "end")))
        self.assertEqual(hangs_straight(made, 1, "entry"), ())
        self.assertEqual(hangs_straight(made, 0, "end"), ((1, "end"), (2, "end"), (3, "end")))

    def test_as_by_the_words_of_the_document(self):
        back = 0
        for seed in range(300):
            made = Maker(seed).program()
            for thing in things(made):
                self.assertEqual(self.told(made, *thing), (straight(made, thing), hung(made, thing)))
                back += thing in hung(made, thing)
        self.assertGreater(back, 20)

    def test_no_thing(self):
        for call in (hangs_straight, hangs_on):
            for thing in anything():
                with self.assertRaises(BadProgram):
                    call(thing, None, None)
                if type(thing) is not int or not 0 <= thing < 3:
                    with self.assertRaises(BadQuestion):
                        call(MIXED, thing, "end")
                with self.assertRaises(BadQuestion):
                    call(MIXED, 1, thing)
            for f, side in [(0, "entry"), (3, "end"), (-1, "end"), (True, "end"), (False, "end"), (1, "End"),
                            (1, Text("end")), (Number(1), "end"),
                            (HUGE, "end"), (1, ""), ("1", "end"), (1, ["end"])]:
                with self.assertRaises(BadQuestion):
                    call(MIXED, f, side)
            call(MIXED, 1, "end")
            with self.assertRaises(BadQuestion):
                call(MIXED, True, "end")
            call(MIXED, 0, "end")
            with self.assertRaises(BadQuestion):
                call(MIXED, False, "end")


class Changes(unittest.TestCase):
    MAIN, F, G = function(let("x", ("call", "f", ())), name="main"), function(), function(name="g")

    def test_put_in_the_place_of_one_or_behind_all(self):
        made = program(self.MAIN, self.F)
        for f, new in [(0, function(name="m")), (0, self.MAIN), (1, function(("give", ("num", 3)))),
                       (1, function(out="number")), (2, self.G)]:
            self.assertEqual(changed(made, ("put", f, new)), ((), (made[1][:f] + (new,) + made[1][f + 1:])))
        self.assertEqual(made, program(self.MAIN, self.F))

    def test_drop(self):
        made = program(self.MAIN, self.F, self.G)
        self.assertEqual(changed(made, ("drop",)), program(self.MAIN, self.F))
        with self.assertRaises(BadProgram) as told:
            changed(changed(made, ("drop",)), ("drop",))
        self.assertEqual(told.exception.place, 0)
        with self.assertRaises(BadProgram) as told:
            changed(program(self.F), ("drop",))
        self.assertEqual(told.exception.place, -1)

    def test_given_stays(self):
        given = (("", "n", 1), ("", "n", 1), ("n", "", 0))
        made = program(function(params=numbers("n")), self.G, given=given)
        self.assertEqual(changed(made, ("drop",))[0], given)
        self.assertEqual(changed(made, ("put", 0, function(params=numbers("m", "n"))))[0], given)
        for params in ((), numbers("m"), rows("n")):
            with self.assertRaises(BadProgram) as told:
                changed(made, ("put", 0, function(params=params)))
            self.assertEqual(told.exception.place, -1)

    def test_what_comes_is_no_program(self):
        made = program(self.MAIN, self.F)
        for change, place in [(("put", 1, self.G), 0), (("put", 1, function(params=numbers("n"))), 0), (("put", 2, self.F), 2),
                              (("put", 2, function(("give", at("n")), name="h")), 2), (("put", 0, None), 0), (("put", 2, ()), 2),
                              (("put", 1, function(chain(13))), 1), (("put", 0, function()), 1)]:
            for call in (changed, touched_by, lambda made, change: standing_anew(made, standing(made), change)):
                with self.assertRaises(BadProgram) as told:
                    call(made, change)
                self.assertEqual(told.exception.place, place)
        for thing in anything():
            with self.assertRaises(BadProgram):
                changed(made, ("put", 1, thing))
        four = program(*[function(name=name) for name in "abcd"])
        with self.assertRaises(BadProgram) as told:
            changed(four, ("put", 4, function(name="e")))
        self.assertEqual(told.exception.place, -1)

    def test_no_change_by_its_form(self):
        made = program(self.MAIN, self.F)
        judged = standing(made)
        bad = [(), ("put",), ("put", 1), ("put", 1, self.F, 0), ("drop", 1), ("drop", 1, self.F), ("Put", 1, self.F),
               ["put", 1, self.F], ["drop"],
               "drop", ("put", 3, self.F), ("put", -1, self.F), ("put", True, self.F), ("put", Number(1), self.F),
               ("put", "1", self.F),
               ("put", None, self.F), ("put", HUGE, self.F), (Text("drop"),), (Text("put"), 1, self.F), Pair(("drop",)),
               (b"drop",), ((),),
               (None, 1, self.F), ("back",)]
        for change in bad + anything():
            for call in (changed, touched_by, lambda made, change: standing_anew(made, judged, change)):
                with self.assertRaises(BadQuestion):
                    call(made, change)
        changed(made, ("put", 1, self.F))
        with self.assertRaises(BadQuestion):
            changed(made, ("put", True, self.F))

    def test_refusals_in_order(self):
        bad = program(function(name="m"), function(chain(13)))
        for thing in anything():
            for call in (changed, touched_by, lambda made, change: standing_anew(made, None, change)):
                with self.assertRaises(BadProgram):
                    call(thing, None)
                with self.assertRaises(BadProgram) as told:
                    call(bad, thing)
                self.assertEqual(told.exception.place, 1)
            with self.assertRaises(BadJudged):
                standing_anew(MIXED, thing, None)
            with self.assertRaises(BadJudged):
                standing_anew(MIXED, thing, ("put", 1, None))
        with self.assertRaises(BadJudged):
            standing_anew(MIXED, standing(MIXED)[:2], ("drop",))
        with self.assertRaises(BadQuestion):
            standing_anew(MIXED, standing(MIXED), ("put", 4, None))


class Touched(unittest.TestCase):
    MADE = by_text("fn main number n:number", "let x call f n", "let y call g x", "give y", "fn f number a:number", "give a",
                   "fn g number b:number", "give b+2", "fn h number c:number", "let u call g c-2", "give u")

    def touched(self, *change):
        told = touched_by(self.MADE, change)
        self.assertIs(type(told), tuple)
        self.assertEqual(told, touched(self.MADE, change))
        return told

    def test_another_pool_touches_all(self):
        for new in ("give 3", "give c-4"):
            self.assertEqual(self.touched("put", 3, by_text("fn m number", "give 0", "fn h number c:number", new)[1][1]),
                             things_of(self.MADE))
        # -2 is nowhere but in h.
        self.assertEqual(self.touched("drop"), things_of(self.MADE)[:5])
        self.assertEqual(self.touched("put", 3, function(name="h", params=numbers("c"))), things_of(self.MADE))

    def test_the_same_function_again(self):
        self.assertEqual(self.touched("put", 3, self.MADE[1][3]), ((0, "end"), (2, "end"), (2, "entry"), (3, "end")))
        self.assertEqual(self.touched("put", 2, self.MADE[1][2]), ((0, "end"), (2, "end"), (3, "end")))
        self.assertEqual(self.touched("put", 1, self.MADE[1][1]), ((0, "end"), (1, "end"), (2, "end"), (2, "entry"), (3, "end")))
        self.assertEqual(self.touched("put", 0, self.MADE[1][0]),
                         ((0, "end"), (1, "end"), (1, "entry"), (2, "end"), (2, "entry"), (3, "end")))

    def test_other_params(self):
        again = function(("give", at("z", 2)), name="g", params=numbers("z"))
        self.assertEqual(self.touched("put", 2, again), ((0, "end"), (2, "end"), (2, "entry"), (3, "end")))
        self.assertEqual(self.touched("put", 2, function(("give", at("b", 2)), name="g", params=numbers("b"))),
                         ((0, "end"), (2, "end"), (3, "end")))

    def test_other_params_of_the_first_one(self):
        made = by_text("fn main number n:number", "give n", "fn f number", "give 0")
        self.assertEqual(touched_by(made, ("put", 0, function(name="main"))), ((0, "end"),))
        self.assertEqual(touched_by(made, ("put", 0, function(name="other", params=rows("r")))), ((0, "end"),))

    def test_behind_all(self):
        made = by_text("fn main number n:number", "let x call f n", "give x", "fn f number a:number", "give a")
        self.assertEqual(touched_by(made, ("put", 2, function(name="g", params=numbers("b")))), ((2, "end"), (2, "entry")))
        calls = function(let("y", ("call", "f", (at("b"),))), name="g", params=numbers("b"))
        self.assertEqual(touched_by(made, ("put", 2, calls)), ((0, "end"), (1, "end"), (1, "entry"), (2, "end"), (2, "entry")))
        itself = function(let("y", ("call", "g", (at("b"),))), name="g", params=numbers("b"))
        self.assertEqual(touched_by(made, ("put", 2, itself)), ((2, "end"), (2, "entry")))

    def test_calls_of_the_body_that_went(self):
        made = by_text("fn main number", "give 0", "fn f number", "let x call g 1", "give x", "fn g number a:number", "give a")
        self.assertEqual(touched_by(made, ("put", 1, function())), ((1, "end"), (2, "end"), (2, "entry")))

    def test_drop(self):
        made = by_text("fn main number", "give 0", "fn f number a:number", "give a", "fn g number b:number", "let x call f b",
                       "let y call g x", "give y")
        self.assertEqual(touched_by(made, ("drop",)), ((1, "end"), (1, "entry")))
        made = by_text("fn main number", "give 0", "fn f number a:number", "give a", "fn g number b:number", "let y call g b",
                       "give y")
        self.assertEqual(touched_by(made, ("drop",)), ())

    def test_as_by_the_words_of_the_document(self):
        chance = random.Random(81)
        many = {"some": 0, "all": 0, "drop": 0}
        for seed in range(1500):
            made = Maker(seed).program()
            change = change_of(made, seed, chance)
            if change is None:
                continue
            told = touched_by(made, change)
            self.assertEqual(told, touched(made, change))
            self.assertEqual(changed(made, change), changed_slowly(made, change))
            many["all" if told == things_of(changed(made, change)) else "some"] += 1
            many["drop"] += change == ("drop",)
        self.assertGreater(min(many.values()), 30)


class Anew(unittest.TestCase):
    def test_as_what_stands_in_the_changed_program(self):
        chance = random.Random(82)
        some = 0
        for seed in range(1200):
            made = Maker(seed).program()
            change = change_of(made, seed, chance)
            if change is None:
                continue
            comes = changed(made, change)
            self.assertEqual(standing_anew(made, standing(made), change), standing(comes))
            some += touched_by(made, change) != things_of(comes)
        self.assertGreater(some, 50)

    def test_where_the_pool_stays(self):
        chance = random.Random(83)
        some = 0
        for seed in range(1200):
            made = Maker(seed).program()
            f = chance.randrange(len(made[1]))
            name, params, out, body = made[1][f]
            change = ("put", f, (name, params, out, spoil_atoms(body, chance)))
            comes = changed(made, change)
            self.assertEqual(touched_by(made, change), touched(made, change))
            self.assertEqual(standing_anew(made, standing(made), change), standing(comes))
            some += touched_by(made, change) != things_of(comes) and standing(comes) != standing(made)
        self.assertGreater(some, 20)

    def test_what_is_not_touched_stays_as_it_was_handed_in(self):
        made = by_text("given 0 n 0", "fn main number n:number", "let x call f n", "give x", "fn f number a:number", "give a",
                       "fn g number b:number", "give b")
        judged = standing(made)
        less = (judged[0], (judged[1][0][:1], judged[1][1][:2]), judged[2])
        change = ("put", 2, function(name="g", params=numbers("c")))
        told = standing_anew(made, less, change)
        self.assertEqual(told[:2], left_of(made, less)[:2])
        self.assertEqual(told[2], standing(changed(made, change))[2])

    def test_all_candidates_for_what_is_touched(self):
        made = by_text("fn main number", "let x call f 1", "give x", "fn f number a:number", "give a")
        change = ("put", 0, by_text("fn main number", "let x call f 0", "give x", "fn f number a:number", "give a")[1][0])
        told = standing_anew(made, (((), ()), ((), ())), change)
        self.assertEqual(told, standing(changed(made, change)))
        self.assertIn(("a", "", 0), told[1][0])
        self.assertEqual(standing_anew(made, standing(made), change), standing(changed(made, change)))

    def test_rows_and_other_kinds_of_out(self):
        made = by_text("fn main number r:row", "let t call f r", "give 0", "fn f row s:row", "give s")
        change = ("put", 1, function(("give", ("num", 1)), params=rows("q")))
        self.assertEqual(standing_anew(made, standing(made), change), standing(changed(made, change)))
        change = ("put", 1, function(("give", row("q")), params=rows("q"), out="row"))
        self.assertEqual(standing_anew(made, standing(made), change), standing(changed(made, change)))

    def test_in_a_short_time(self):
        text = ["fn main number x:number y:row", "fn fa number x:number y:row", "fn fb number x:number y:row",
                "fn fc number x:number y:row"]
        body = ["let c" + letter + " call f" + "abc"[k % 3] + " x" + ("", "+1", "-1", "+4")[k % 4] + " y" for k,
                letter in enumerate("abcdefghijk")]
        made = by_text(*[part for head in text for part in [head] + body + ["give ck"]])
        start = time.process_time()
        judged = standing(made)
        for f in range(4):
            for side in ("entry", "end")[f == 0:]:
                hangs_on(made, f, side)
            self.assertEqual(standing_anew(made, judged, ("put", f, made[1][f])), judged)
        self.assertLess(time.process_time() - start, SHORT)

    def test_kinds_of_what_is_told(self):
        made = need_program(program(function(GIVE, name="m"), function(let("x", ("be", ATOM)))))
        told = standing_anew(made, standing(made), ("drop",))
        self.assertEqual(told, standing(program(function(GIVE, name="m"))))
        self.assertEqual(len(candidates(made)), 2)
        self.assertEqual(len(told), 1)


if __name__ == "__main__":
    unittest.main()
