"""Point 52: the keeper."""

import random
import unittest

from strikehall.anew import changed, things_of, touched_by
from strikehall.errors import BadProgram, BadQuestion
from strikehall.keeper import Keeper
from strikehall.programs import is_program
from strikehall.strikes import standing
from tests.making import Maker
from tests.samples import MIXED, Odd, anything, at, chain, function, let, numbers, program
from tests.test_anew import change_of
from tests.test_facts import by_text

MADE = by_text("fn main number n:number", "let x call f n", "give x", "fn f number a:number", "if a 0", " give 0", "else", " give a")
SAME = ("put", 1, MADE[1][1])
OTHER = ("put", 1, function(("give", at("a", -1)), params=numbers("a")))
MORE = ("put", 2, function(let("y", ("call", "f", (at("b"),)), ("give", at("y"))), name="g", params=numbers("b")))


class Base(unittest.TestCase):
    def kept(self, keeper, made, gone, looked):
        self.assertEqual(keeper.program(), made)
        self.assertEqual(keeper.standing(), standing(made))
        self.assertEqual(keeper.gone(), gone)
        self.assertEqual(keeper.looked(), looked)
        self.assertEqual([type(told) for told in (keeper.program(), keeper.standing(), keeper.gone(), keeper.looked())],
                         [tuple, tuple, tuple, int])


class Kept(Base):
    def test_at_first_all_things(self):
        for made in (MADE, MIXED, program(function())):
            self.kept(Keeper(made), made, things_of(made), len(things_of(made)))

    def test_changes(self):
        keeper = Keeper(MADE)
        made, looked = MADE, 3
        for change in (SAME, OTHER, MORE, ("drop",), OTHER, SAME, MORE, MORE[:1] + (1,) + (MADE[1][1],)):
            gone = touched_by(made, change)
            made, looked = changed(made, change), looked + len(gone)
            self.assertIs(keeper.change(change), None)
            self.kept(keeper, made, gone, looked)

    def test_by_hand(self):
        keeper = Keeper(MADE)
        keeper.change(SAME)
        self.kept(keeper, MADE, ((0, "end"), (1, "end")), 5)
        keeper.change(MORE)
        self.kept(keeper, changed(MADE, MORE), ((0, "end"), (1, "end"), (1, "entry"), (2, "end"), (2, "entry")), 10)
        keeper.back()
        self.kept(keeper, MADE, (), 10)
        keeper.back()
        self.kept(keeper, MADE, (), 10)

    def test_back(self):
        keeper = Keeper(MADE)
        keeper.change(OTHER)
        keeper.change(MORE)
        looked = keeper.looked()
        self.assertIs(keeper.back(), None)
        self.kept(keeper, changed(MADE, OTHER), (), looked)
        keeper.change(SAME)
        looked = keeper.looked()
        self.assertEqual(keeper.program(), MADE)
        keeper.back()
        self.kept(keeper, changed(MADE, OTHER), (), looked)
        keeper.back()
        self.kept(keeper, MADE, (), looked)
        for _ in range(2):
            with self.assertRaises(BadQuestion):
                keeper.back()
            self.kept(keeper, MADE, (), looked)

    def test_back_where_there_is_none(self):
        keeper = Keeper(MADE)
        with self.assertRaises(BadQuestion) as told:
            keeper.back()
        self.assertIs(type(told.exception), BadQuestion)
        self.kept(keeper, MADE, things_of(MADE), 3)

    def test_what_is_refused_changes_nothing(self):
        keeper = Keeper(MADE)
        keeper.change(OTHER)
        told = (keeper.program(), keeper.gone(), keeper.looked())
        for change in [("put", 3, MADE[1][1]), ("put", True, MADE[1][1]), ("put",), (), ("drop", 1), "drop", Odd()] + anything():
            with self.assertRaises(BadQuestion):
                keeper.change(change)
            self.assertEqual((keeper.program(), keeper.gone(), keeper.looked()), told)
        for change, place in [(("drop",), 0), (("put", 1, function(name="g")), 0), (("put", 2, MADE[1][1]), 2), (("put", 0, None), 0),
                              (("put", 2, Odd()), 2), (("put", 1, function(chain(13))), 1)]:
            with self.assertRaises(BadProgram) as refused:
                keeper.change(change)
            self.assertEqual(refused.exception.place, place)
            self.assertEqual((keeper.program(), keeper.gone(), keeper.looked()), told)
        self.kept(keeper, changed(MADE, OTHER), told[1], told[2])
        # None of these is there to be taken back.
        keeper.back()
        self.kept(keeper, MADE, (), told[2])
        with self.assertRaises(BadQuestion):
            keeper.back()

    def test_behind_what_is_refused_and_taken_back(self):
        keeper = Keeper(MADE)
        keeper.change(SAME)
        keeper.back()
        for change in (("drop",), ("put", 0, 0)):
            with self.assertRaises(BadProgram):
                keeper.change(change)
            self.kept(keeper, MADE, (), 5)

    def test_keepers_are_each_for_themselves(self):
        one, other = Keeper(MADE), Keeper(MADE)
        one.change(MORE)
        self.kept(other, MADE, things_of(MADE), 3)
        with self.assertRaises(BadQuestion):
            other.back()
        self.assertEqual(len(one.program()[1]), 3)

    def test_given(self):
        made = by_text("given 0 n 0", "given 0 n 0", "given n 0 2", "fn main number n:number", "give n", "fn f number", "give 0")
        keeper = Keeper(made)
        self.assertEqual(keeper.standing()[0][0], (("", "n", 0), ("n", "", 2)))
        for change in (("put", 0, function(("give", at("n", 1)), name="main", params=numbers("m", "n"))), ("drop",)):
            made = changed(made, change)
            keeper.change(change)
            self.assertEqual((keeper.program(), keeper.standing()), (made, standing(made)))
        with self.assertRaises(BadProgram) as told:
            keeper.change(("put", 0, function(name="main", params=numbers("m"))))
        self.assertEqual(told.exception.place, -1)

    def test_of_no_program(self):
        for thing in anything():
            with self.assertRaises(BadProgram):
                Keeper(thing)
        with self.assertRaises(BadProgram) as told:
            Keeper(program(function(name="m"), function(chain(13))))
        self.assertEqual(told.exception.place, 1)


class Many(Base):
    def test_changes_by_chance(self):
        chance = random.Random(91)
        changes = 0
        for seed in range(100):
            made = Maker(seed).program()
            keeper = Keeper(made)
            looked, earlier = len(things_of(made)), []
            for k in range(8):
                if chance.random() < 0.3 and earlier:
                    keeper.back()
                    made = earlier.pop()
                    self.kept(keeper, made, (), looked)
                    continue
                change = change_of(made, seed * 100 + k, chance)
                if change is None:
                    continue
                earlier.append(made)
                gone = touched_by(made, change)
                made, looked = changed(made, change), looked + len(gone)
                keeper.change(change)
                self.kept(keeper, made, gone, looked)
                self.assertTrue(is_program(made))
                changes += 1
        self.assertGreater(changes, 150)


if __name__ == "__main__":
    unittest.main()
