"""Points 13 and 14: the facts on the way to a node, and what is needed there."""

import random
import unittest

from strikehall.programs import need_program
from strikehall.sayings import fits, need_facts
from strikehall.texts import read_program
from strikehall.ways import candidates, end_terms, entry_terms, facts_at, needed_at
from tests.making import Maker
from tests.naive import all_nodes, facts, needs, node_with_way
from tests.samples import ATOM, GIVE, HUGE, MIXED, at, function, let, numbers, program, rows

NONE = ((), ())


def by_text(*rows_of_text):
    return read_program("\n".join(rows_of_text))


def some_judged(made, chance, great=3):
    """JUDGED of these and those sayings."""
    def some(terms):
        told = set()
        for _ in range(chance.randint(0, 8)):
            if len(terms) > 1:
                told.add((*chance.sample(terms, 2), chance.randint(-great, great)))
        return tuple(sorted(told))
    return tuple((some(entry_terms(made, f)), some(end_terms(made, f))) for f in range(len(made[1])))


class Base(unittest.TestCase):
    PARAMS = numbers("n", "m") + rows("r")

    def behind(self, right, *more, judged=NONE, other=None):
        """What a let of x tells to what comes behind it, and what is needed at it."""
        made = need_program(program(function(let("x", right), params=self.PARAMS), *([other] if other else [])))
        judged = (judged, *more) if other else (judged,)
        told = facts_at(made, judged, 0, 1)
        self.assertEqual(facts_at(made, judged, 0, 0), (("", "#r", 0),))
        self.assertIs(type(told), tuple)
        self.assertEqual(told[0], ("", "#r", 0))
        return told[1:], needed_at(made, judged, 0, 0)


class Lets(Base):
    def test_be(self):
        for c in range(-4, 5):
            self.assertEqual(self.behind(("be", at("n", c))), ((("x", "n", c), ("n", "x", -c)), ()))
            self.assertEqual(self.behind(("be", ("num", c))), ((("x", "", c), ("", "x", -c)), ()))

    def test_sum(self):
        for one in range(-4, 5):
            for other in range(-4, 5):
                both = one + other
                like = ((("x", "n", both), ("n", "x", -both)), ())
                self.assertEqual(self.behind(("sum", at("n", one), ("num", other))), like)
                self.assertEqual(self.behind(("sum", ("num", one), at("n", other))), like)
                self.assertEqual(self.behind(("sum", ("num", one), ("num", other))),
                                 ((("x", "", both), ("", "x", -both)), ()))
                self.assertEqual(self.behind(("sum", at("n", one), at("m", other))), ((), ()))
                self.assertEqual(self.behind(("sum", at("n", one), at("n", other))), ((), ()))

    def test_long(self):
        self.assertEqual(self.behind(("long", "r")), ((("x", "#r", 0), ("#r", "x", 0)), ()))

    def test_part(self):
        for c in range(-4, 5):
            needed = (("", "n", c), ("n", "#r", -1 - c))
            self.assertEqual(self.behind(("part", "r", at("n", c))), (needed, needed))
            needed = ((("", "", c),) if c < 0 else ()) + (("", "#r", -1 - c),)
            self.assertEqual(self.behind(("part", "r", ("num", c))), (needed, needed))

    def test_with(self):
        like = (("", "#x", 0), ("#x", "#r", 0), ("#r", "#x", 0))
        for c in range(-4, 5):
            needed = (("", "n", c), ("n", "#r", -1 - c))
            self.assertEqual(self.behind(("with", "r", at("n", c), at("m", 4))), (like + needed, needed))
            needed = ((("", "", c),) if c < 0 else ()) + (("", "#r", -1 - c),)
            self.assertEqual(self.behind(("with", "r", ("num", c), ATOM)), (like + needed, needed))

    def test_cut(self):
        for c in range(-4, 5):
            needed = (("", "n", c), ("n", "#r", -c))
            like = (("", "#x", 0), ("#x", "n", c), ("n", "#x", -c))
            self.assertEqual(self.behind(("cut", "r", at("n", c))), (like + needed, needed))
            needed = ((("", "", c),) if c < 0 else ()) + (("", "#r", -c),)
            like = (("", "#x", 0), ("#x", "", c), ("", "#x", -c))
            self.assertEqual(self.behind(("cut", "r", ("num", c))), (like + needed, needed))


class Others(Base):
    def of_atoms(self, one, other):
        """Facts behind a must and in both bodies of an if of these atoms, and what is needed of the must."""
        must = program(function(("must", one, other, GIVE), params=numbers("n", "m")))
        choice = program(function(("if", one, other, GIVE, GIVE), params=numbers("n", "m")))
        self.assertEqual(needed_at(choice, (NONE,), 0, 0), ())
        return (facts_at(must, (NONE,), 0, 1), needed_at(must, (NONE,), 0, 0), facts_at(choice, (NONE,), 0, 1),
                facts_at(choice, (NONE,), 0, 2))

    def test_unlike_terms(self):
        for one in range(-4, 5):
            for other in range(-4, 5):
                first, second = (("n", "m", other - one),), (("m", "n", one - other - 1),)
                self.assertEqual(self.of_atoms(at("n", one), at("m", other)), (first, first, first, second))
                first, second = (("n", "", other - one),), (("", "n", one - other - 1),)
                self.assertEqual(self.of_atoms(at("n", one), ("num", other)), (first, first, first, second))
                first, second = (("", "n", other - one),), (("n", "", one - other - 1),)
                self.assertEqual(self.of_atoms(("num", one), at("n", other)), (first, first, first, second))

    def test_like_terms(self):
        for one in range(-4, 5):
            for other in range(-4, 5):
                first = () if one <= other else (("", "", other - one),)
                second = () if other <= one - 1 else (("", "", one - other - 1),)
                for make in (lambda c: ("num", c), lambda c: at("n", c)):
                    self.assertEqual(self.of_atoms(make(one), make(other)), (first, first, first, second))

    def test_gives_and_others_need_nothing_of_their_own(self):
        for body in (GIVE, let("x", ("be", ATOM)), let("x", ("sum", ATOM, at("n"))), let("x", ("long", "r")),
                     ("if", at("n"), ATOM, GIVE, GIVE)):
            self.assertEqual(needed_at(program(function(body, params=self.PARAMS)), (NONE,), 0, 0), ())


class Entries(Base):
    def test_the_entry_then_rows_of_params(self):
        params = rows("z") + numbers("n") + rows("b")
        made = program(function(let("x", ("be", ATOM)), params=params))
        entry = (("", "#b", 0), ("#b", "n", -HUGE), ("n", "#z", 5))
        self.assertEqual(facts_at(made, ((entry, ()),), 0, 0), entry + (("", "#z", 0), ("", "#b", 0)))
        self.assertEqual(facts_at(made, ((entry, ()),), 0, 1),
                         entry + (("", "#z", 0), ("", "#b", 0), ("x", "", 0), ("", "x", 0)))

    def test_of_its_own_function(self):
        made = program(function(name="m", params=numbers("n")), function(params=numbers("n")))
        one, other = (("", "n", 1),), (("n", "", 2),)
        judged = ((one, ()), (other, ()))
        self.assertEqual([facts_at(made, judged, f, 0) for f in (0, 1)], [one, other])

    def test_the_end_is_needed_at_each_give(self):
        made = by_text("fn main number n:number m:number", "if n m", " give n+2", "else", " if m 0", "  give 3", " else",
                       "  give m")
        end = (("", "out", 1), ("m", "n", 4), ("n", "out", -3), ("out", "", 5), ("out", "m", 0))
        judged = (((), end),)
        self.assertEqual(needed_at(made, judged, 0, 1), (("", "n", 3), ("m", "n", 4), ("", "", -1), ("n", "", 3), ("n", "m", -2)))
        self.assertEqual(needed_at(made, judged, 0, 3), (("m", "n", 4), ("n", "", 0), ("", "m", -3)))
        self.assertEqual(needed_at(made, judged, 0, 4), (("", "m", 1), ("m", "n", 4), ("n", "m", -3), ("m", "", 5)))
        for n in (0, 2):
            self.assertEqual(needed_at(made, judged, 0, n), ())

    def test_the_end_of_a_row(self):
        made = by_text("fn main row r:row s:row", "if 0 1", " give r", "else", " give s")
        end = (("", "#out", -2), ("#out", "#r", 0), ("#out", "#s", -1))
        judged = (((), end),)
        self.assertEqual(needed_at(made, judged, 0, 1), (("", "#r", -2), ("#r", "#s", -1)))
        self.assertEqual(needed_at(made, judged, 0, 2), (("", "#s", -2), ("#s", "#r", 0), ("", "", -1)))


class Calls(Base):
    def test_names_are_put_all_at_once(self):
        made = by_text("fn main number a:number b:number", "let x call f b-1 a+2", "give x",
                       "fn f number a:number b:number", "give a")
        entry = (("", "a", 1), ("a", "b", 0), ("b", "a", 4))
        end = (("a", "out", 0), ("b", "", 3), ("out", "b", 2))
        judged = (((), ()), (entry, end))
        self.assertEqual(needed_at(made, judged, 0, 0), (("", "b", 0), ("b", "a", 3), ("a", "b", 1)))
        self.assertEqual(facts_at(made, judged, 0, 1), (("b", "x", 1), ("a", "", 1), ("x", "a", 4)))

    def test_rows(self):
        made = by_text("fn main row s:row n:number", "let t call f s n", "give t", "fn f row r:row n:number", "give r")
        entry, end = (("n", "#r", -1),), (("#out", "#r", 0), ("#r", "#out", 0), ("n", "#out", -1))
        judged = (((), ()), (entry, end))
        self.assertEqual(needed_at(made, judged, 0, 0), (("n", "#s", -1),))
        self.assertEqual(facts_at(made, judged, 0, 1), (
            ("", "#s", 0), ("", "#t", 0), ("#t", "#s", 0), ("#s", "#t", 0), ("n", "#t", -1)))

    def test_one_name_or_row_handed_on_twice(self):
        made = by_text("fn main number n:number", "let x call f n n+1", "give x", "fn f number a:number b:number", "give a")
        entry = (("a", "b", -2), ("a", "b", -1), ("b", "a", 0), ("b", "a", 1))
        self.assertEqual(needed_at(made, (NONE, (entry, ())), 0, 0), (("", "", -1), ("", "", -1)))
        self.assertEqual(facts_at(made, (NONE, ((), entry)), 0, 1), (("", "", -1), ("", "", -1)))
        made = by_text("fn main number r:row", "let x call f r r", "give x", "fn f number r:row s:row", "give 0")
        entry = (("#r", "#s", -1), ("#r", "#s", 0), ("#s", "#r", 1))
        self.assertEqual(needed_at(made, (NONE, (entry, ())), 0, 0), (("", "", -1),))
        self.assertEqual(facts_at(made, (NONE, ((), entry + (("out", "#r", 0),))), 0, 1),
                         (("", "#r", 0), ("", "", -1), ("x", "#r", 0)))

    def test_numbers_handed_on(self):
        made = by_text("fn main number", "let x call f 3 -2", "give x", "fn f number a:number b:number", "give a")
        sayings = (("", "a", -4), ("", "a", -3), ("a", "", 2), ("a", "b", 4), ("a", "b", 5), ("b", "a", -5), ("b", "a", -6))
        sayings = tuple(sorted(sayings))
        self.assertEqual(needed_at(made, (NONE, (sayings, ())), 0, 0),
                         (("", "", -1), ("", "", -1), ("", "", -1), ("", "", -1)))
        self.assertEqual(facts_at(made, (NONE, ((), (("a", "out", 0), ("out", "b", 7)))), 0, 1), (("", "x", -3), ("x", "", 5)))

    def test_a_function_that_calls_itself(self):
        made = by_text("fn main number", "give 0", "fn f number n:number", "let x call f n-1", "let y call f x", "give y")
        entry, end = (("", "n", 0),), (("out", "n", -1),)
        judged = (NONE, (entry, end))
        self.assertEqual([needed_at(made, judged, 1, n) for n in range(3)],
                         [(("", "n", -1),), (("", "x", 0),), (("y", "n", -1),)])
        self.assertEqual(facts_at(made, judged, 1, 2), (("", "n", 0), ("x", "n", -2), ("y", "x", -1)))

    def test_a_function_without_params(self):
        made = by_text("fn main number", "let x call f", "give x", "fn f number", "give 2")
        judged = (NONE, ((), (("", "out", -2), ("out", "", 2))))
        self.assertEqual(needed_at(made, judged, 0, 0), ())
        self.assertEqual(facts_at(made, judged, 0, 1), (("", "x", -2), ("x", "", 2)))
        self.assertEqual(needed_at(made, judged, 1, 0), ())


class Ways(Base):
    def test_one_behind_the_other(self):
        made = by_text("fn main number n:number r:row", "let x part r n", "if x 2", " must x 4", " let s cut r 1", " give x",
                       "else", " let t with r n x", " let y long t", " if y n", "  give y", " else", "  give 0")
        ahead = (("", "#r", 0), ("", "n", 0), ("n", "#r", -1))
        first = ahead + (("x", "", 2),)
        second = ahead + (("", "x", -3),)
        told = second + (("", "#t", 0), ("#t", "#r", 0), ("#r", "#t", 0), ("", "n", 0), ("n", "#r", -1))
        ways = [ahead[:1], ahead, first, first + (("x", "", 4),),
                first + (("x", "", 4), ("", "#s", 0), ("#s", "", 1), ("", "#s", -1), ("", "#r", -1)),
                second, told, told + (("y", "#t", 0), ("#t", "y", 0)),
                told + (("y", "#t", 0), ("#t", "y", 0), ("y", "n", 0)), told + (("y", "#t", 0), ("#t", "y", 0), ("n", "y", -1))]
        self.assertEqual([facts_at(made, (NONE,), 0, n) for n in range(10)], ways)

    def test_great_numbers(self):
        great = 10 ** 300 - 1
        made = by_text("fn main number n:number", "let x call f n+4", "give x-4", "fn f number a:number", "give a")
        judged = (((), (("out", "n", great),)), ((("a", "", -great),), (("", "out", great),)))
        self.assertEqual(needed_at(made, judged, 0, 0), (("n", "", -great - 4),))
        self.assertEqual(facts_at(made, judged, 0, 1), (("", "x", great),))
        self.assertEqual(needed_at(made, judged, 0, 1), (("x", "n", great + 4),))

    def test_as_by_the_words_of_the_document(self):
        chance = random.Random(12)
        dead = 0
        for seed in range(400):
            made = Maker(seed).program()
            judged = candidates(made) if seed % 4 == 0 else some_judged(made, chance, chance.choice((3, 10 ** 299)))
            for f, n in all_nodes(made):
                told = facts_at(made, judged, f, n)
                self.assertEqual(told, tuple(facts(made, judged, f, n)))
                need_facts(told)
                dead += not fits(told)
                node, _ = node_with_way(made, f, n)
                self.assertEqual(needed_at(made, judged, f, n), tuple(needs(made, judged, f, node)))
        self.assertGreater(dead, 100)

    def test_of_mixed(self):
        judged = (NONE, NONE, NONE)
        self.assertEqual(needed_at(MIXED, judged, 0, 1), (("", "a", 0), ("a", "#r", -1)))
        self.assertEqual(facts_at(MIXED, judged, 0, 8), (
            ("", "#r", 0), ("", "#y", 0), ("#y", "#r", 0), ("#r", "#y", 0), ("", "a", 0), ("a", "#r", -1), ("x", "a", -1),
            ("", "", -2), ("z", "#y", 0), ("#y", "z", 0), ("z", "", 4)))


if __name__ == "__main__":
    unittest.main()
