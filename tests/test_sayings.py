"""Points 10 and 11: terms, sayings, facts, what fits and what follows."""

import copy
import itertools
import random
import unittest

from strikehall.errors import BadSaying
from strikehall.sayings import (
    chain_for, fits, follows, is_saying, is_term, least_between, need_facts, numbers_for, ring_for)
from tests.naive import Closed
from tests.samples import HUGE, Number, Pair, Text, anything
from tests.test_names import WORDS

OF_FACTS = [need_facts, fits, numbers_for, ring_for, lambda facts: least_between(facts, "a", "b"),
            lambda facts: follows(facts, ("a", "b", 0)), lambda facts: chain_for(facts, ("a", "b", 0))]
OF_A_SAYING = [follows, chain_for]


class Terms(unittest.TestCase):
    def test_good_ones(self):
        for term in ("", "a", "abcdef", "#a", "#abcdef", "out", "#out", "outs", "#outs", "end", "entry", "nought"):
            self.assertIs(is_term(term), True, term)

    def test_others(self):
        for term in ("#", "##", "##a", "#a#", "a#", "0", "1", " ", "a ", " a", "# a", "A", "#A", "abcdefg", "#abcdefg", "a1",
                     "-", "out ", "Out", "#Out", "out#", "##out", "\n", "a\n", "#\n", "a,b"):
            self.assertIs(is_term(term), False, term)
        for word in WORDS:
            self.assertIs(is_term(word), word == "out", word)
            self.assertIs(is_term("#" + word), word == "out", word)

    def test_anything(self):
        for thing in anything():
            self.assertIs(is_term(thing), type(thing) is str and thing == "")
        for thing in (b"", b"a", Text(""), Text("a"), Text("out"), ("a",), ["a"]):
            self.assertIs(is_term(thing), False)


class Sayings(unittest.TestCase):
    def test_good_ones(self):
        for one, other in itertools.permutations(("", "a", "#a", "out", "#out", "b"), 2):
            for most in (0, 1, -1, 5, -5, 10 ** 300 - 1, 1 - 10 ** 300):
                self.assertIs(is_saying((one, other, most)), True)

    def test_like_terms(self):
        for term in ("", "a", "#a", "out", "#out"):
            for most in (-1, 0, 1):
                self.assertIs(is_saying((term, term, most)), False)

    def test_others(self):
        for thing in [("a", "b"), ("a", "b", 0, 0), ["a", "b", 0], ("a", "b", True), ("a", "b", False), ("a", "b", None),
                      ("a", "b", "0"), ("a", "B", 0), ("if", "b", 0), ("a", "#", 0), (0, "a", "b"), ("a", 0, "b"),
                      ("a", "b", (0,)), Pair(("a", "b", 0)), (Text("a"), "b", 0), ("a", "b", Number(0)), "ab0", (), None,
                      {"a": "b"}, (("a", "b", 0),), ("a", None, 0), (None, "a", 0)]:
            self.assertIs(is_saying(thing), False, thing)

    def test_anything(self):
        for thing in anything():
            self.assertIs(is_saying(thing), False)
            self.assertIs(is_saying((thing, "b", 0)), type(thing) is str and thing == "")
            self.assertIs(is_saying(("b", thing, 0)), type(thing) is str and thing == "")
            self.assertIs(is_saying(("a", "b", thing)), type(thing) is int)
            self.assertIs(is_saying((thing, thing, thing)), False)


class Facts(unittest.TestCase):
    def test_good_ones(self):
        for facts in [(), (("a", "b", 0),), (("", "", -1),), (("a", "b", 0), ("", "", -HUGE), ("a", "b", 0)),
                      (("out", "#out", HUGE),), (("a", "b", -1),) * 4000]:
            self.assertIs(need_facts(facts), facts)

    def test_others(self):
        good = ("a", "b", 0)
        for bad in [("", "", 0), ("", "", 1), ("a", "a", -1), ("a", "a", 0), ("#a", "#a", -1), ("out", "out", -1),
                    ("", "", True), ("", "", False), ("a", "b", True), ("a", "b"), ["a", "b", 0], None, 0, "", (),
                    ("a", "0", 0), ("", "", -1, 0), ("", "", Number(-1)), ("", Text(""), -1), Pair(good)]:
            for facts in ((bad,), (good, bad), (bad, good), (good,) * 3999 + (bad,)):
                for call in OF_FACTS:
                    with self.assertRaises(BadSaying) as told:
                        call(facts)
                    self.assertIs(type(told.exception), BadSaying)

    def test_anything(self):
        for thing in anything():
            for call in OF_FACTS:
                if type(thing) is not tuple or thing != ():
                    with self.assertRaises(BadSaying):
                        call(thing)
                with self.assertRaises(BadSaying):
                    call((thing,))
        for facts in ([], [("a", "b", 0)], {}, None, "", iter(()), Pair(), {("a", "b", 0): 0}):
            for call in OF_FACTS:
                with self.assertRaises(BadSaying):
                    call(facts)

    def test_truths_right_behind_numbers(self):
        for number, truth in ((0, False), (1, True)):
            for call in OF_FACTS:
                call((("a", "b", number),))
                with self.assertRaises(BadSaying):
                    call((("a", "b", truth),))
            for call in OF_A_SAYING:
                call((), ("a", "b", number))
                with self.assertRaises(BadSaying):
                    call((), ("a", "b", truth))

    def test_a_saying_that_is_none(self):
        for facts in ((), (("a", "b", 0),), (("", "", -1),)):
            for bad in [("", "", 0), ("", "", 3), ("a", "a", 0), ("a", "a", -1), ("a", "b"), ["a", "b", 0], None, (),
                        ("a", "B", 0), ("a", "b", True), ("", "", True), Pair(("a", "b", 0))]:
                for call in OF_A_SAYING:
                    with self.assertRaises(BadSaying):
                        call(facts, bad)
            for thing in anything():
                for call in OF_A_SAYING:
                    with self.assertRaises(BadSaying):
                        call(facts, thing)

    def test_terms_that_are_none_or_alike(self):
        for facts in ((), (("a", "b", 0),), (("", "", -1),)):
            for one, other in [("a", "a"), ("", ""), ("a", "A"), ("#", "a"), ("a", None), (0, "a"), ("a", b"b"), (["a"], "b"),
                               ("a", Text("b")), ("if", "a"), ("a", "abcdefg"), ("out", "out")]:
                with self.assertRaises(BadSaying):
                    least_between(facts, one, other)
            for thing in anything():
                if type(thing) is not str or thing != "":
                    with self.assertRaises(BadSaying):
                        least_between(facts, thing, "b")
                    with self.assertRaises(BadSaying):
                        least_between(facts, "b", thing)

    def test_more_than_is_said(self):
        names = ["a" + chr(97 + k) for k in range(26) if chr(97 + k) != "t"] + ["b" + chr(97 + k) for k in range(4)]
        facts = tuple((one, other, 1) for one, other in zip(names, names[1:])) * 200 + (("b", "c", 0),) * 100
        self.assertGreater(len(facts), 4000)
        self.assertIs(need_facts(facts), facts)
        self.assertIs(fits(facts), True)


class Follows(unittest.TestCase):
    def test_no_facts(self):
        self.assertIs(fits(()), True)
        self.assertEqual(numbers_for(()), {})
        self.assertIsNone(ring_for(()))
        for saying in (("a", "b", 0), ("", "a", HUGE), ("out", "", -HUGE), ("", "", -1)):
            self.assertIs(follows((), saying), False)
            self.assertIsNone(chain_for((), saying))
        self.assertIsNone(least_between((), "a", "b"))
        self.assertIsNone(least_between((), "", "#out"))

    def test_one_fact(self):
        facts = (("a", "b", 3),)
        for most in range(-5, 10):
            self.assertIs(follows(facts, ("a", "b", most)), most >= 3)
            self.assertEqual(chain_for(facts, ("a", "b", most)), [0] if most >= 3 else None)
            self.assertIs(follows(facts, ("b", "a", most)), False)
            self.assertIsNone(chain_for(facts, ("b", "a", most)))
        self.assertEqual(least_between(facts, "a", "b"), 3)
        self.assertIsNone(least_between(facts, "b", "a"))

    def test_a_chain(self):
        facts = (("c", "d", 2), ("a", "b", 5), ("b", "c", -9))
        self.assertEqual(least_between(facts, "a", "d"), -2)
        self.assertEqual(least_between(facts, "a", "c"), -4)
        self.assertEqual(least_between(facts, "b", "d"), -7)
        self.assertIs(follows(facts, ("a", "d", -2)), True)
        self.assertIs(follows(facts, ("a", "d", -3)), False)
        self.assertEqual(chain_for(facts, ("a", "d", -2)), [1, 2, 0])

    def test_nought_is_a_term_like_others(self):
        facts = (("a", "", 2), ("", "b", -1))
        self.assertEqual(least_between(facts, "a", "b"), 1)
        self.assertEqual(least_between(facts, "a", ""), 2)
        self.assertEqual(least_between(facts, "", "b"), -1)
        self.assertEqual(chain_for(facts, ("a", "b", 1)), [0, 1])
        for told in (numbers_for(facts), numbers_for((("", "a", -7),)), numbers_for((("a", "", -7),))):
            self.assertNotIn("", told)
        self.assertGreaterEqual(numbers_for((("", "a", -7),))["a"], 7)
        self.assertLessEqual(numbers_for((("a", "", -7),))["a"], -7)
        self.assertIs(fits((("", "a", -1), ("a", "", 0))), False)
        self.assertIs(fits((("", "a", -1), ("a", "", 1))), True)

    def test_nought_alone(self):
        for facts in ((("", "", -1),), (("", "", -HUGE),), (("a", "b", 0), ("", "", -1)), (("", "", -1), ("a", "b", 0))):
            self.assertIs(fits(facts), False)
            self.assertIsNone(numbers_for(facts))
            self.assertIsNone(least_between(facts, "a", "b"))
            self.assertIsNone(least_between(facts, "c", "d"))
            for saying in (("a", "b", -HUGE), ("c", "d", 0), ("", "", -HUGE), ("", "", -1)):
                self.assertIs(follows(facts, saying), True)
                self.assertIsNone(chain_for(facts, saying))
            self.assertEqual(ring_for(facts), [[one for one, _, _ in facts].index("")])

    def test_at_any_place(self):
        good = [("a", "b", 0), ("b", "c", -3), ("c", "a", 3), ("", "a", 2)]
        for place in range(5):
            facts = tuple(good[:place] + [("", "", -2)] + good[place:])
            self.assertIs(fits(facts), False)
            self.assertEqual(ring_for(facts), [place])
            self.assertIs(follows(facts, ("x", "y", -1)), True)

    def test_nothing_follows_for_nought_itself_where_facts_fit(self):
        for facts in ((), (("a", "b", -1), ("b", "a", 1)), (("", "a", 0),)):
            for most in (-1, -5, -HUGE):
                self.assertIs(follows(facts, ("", "", most)), False)
                self.assertIsNone(chain_for(facts, ("", "", most)))

    def test_terms_that_stand_in_no_fact(self):
        facts = (("a", "b", 0), ("b", "", 0))
        for one, other in (("c", "d"), ("a", "c"), ("c", "a"), ("", "c"), ("#a", "a"), ("a", "#b"), ("out", "a")):
            self.assertIsNone(least_between(facts, one, other))
            self.assertIs(follows(facts, (one, other, HUGE)), False)
            self.assertIsNone(chain_for(facts, (one, other, HUGE)))
        unfit = (("a", "b", 0), ("b", "a", -1))
        self.assertIs(follows(unfit, ("c", "d", -HUGE)), True)
        self.assertIsNone(least_between(unfit, "c", "d"))

    def test_a_ring(self):
        for most in range(-3, 4):
            facts = (("a", "b", 2), ("b", "c", -1), ("c", "a", most), ("x", "y", 0))
            self.assertIs(fits(facts), most >= -1)
            self.assertEqual(numbers_for(facts) is None, most < -1)
            told = ring_for(facts)
            self.assertEqual(None if told is None else sorted(told), None if most >= -1 else [0, 1, 2])
            self.assertIs(follows(facts, ("x", "a", -HUGE)), most < -1)
            self.assertEqual(least_between(facts, "x", "y"), 0 if most >= -1 else None)

    def test_a_ring_of_sum_nought_fits(self):
        facts = (("a", "b", 5), ("b", "a", -5))
        self.assertIs(fits(facts), True)
        self.assertEqual(least_between(facts, "a", "b"), 5)
        self.assertEqual(least_between(facts, "b", "a"), -5)
        told = numbers_for(facts)
        self.assertEqual(told["a"] - told["b"], 5)

    def test_great_numbers(self):
        great = 10 ** 300 - 1
        facts = (("a", "b", great), ("b", "c", great), ("c", "d", -great), ("d", "e", -great))
        self.assertEqual(least_between(facts, "a", "c"), 2 * great)
        self.assertEqual(least_between(facts, "a", "e"), 0)
        self.assertIs(follows(facts, ("a", "c", great)), False)
        self.assertIs(fits(facts + (("e", "a", 0),)), True)
        self.assertIs(fits(facts + (("e", "a", -1),)), False)
        self.assertEqual(sorted(ring_for(facts + (("e", "a", -1),))), [0, 1, 2, 3, 4])
        told = numbers_for((("a", "", -great), ("", "b", -great), ("b", "c", -great)))
        self.assertTrue(told["a"] <= -great and told["b"] >= great and told["c"] >= 2 * great)

    def test_the_least_of_many(self):
        facts = (("a", "b", 7), ("a", "b", 3), ("a", "c", 1), ("c", "b", 1), ("a", "b", 5))
        self.assertEqual(least_between(facts, "a", "b"), 2)
        self.assertEqual(chain_for(facts, ("a", "b", 3)), [1])
        self.assertEqual(chain_for(facts, ("a", "b", 2)), [2, 3])
        self.assertIsNone(chain_for(facts, ("a", "b", 1)))

    def test_numbers_rising_by_terms(self):
        facts = (("d", "#z", 0), ("b", "out", 0), ("", "#a", 0), ("ab", "#out", 0))
        self.assertEqual(list(numbers_for(facts)), ["#a", "#out", "#z", "ab", "b", "d", "out"])

    def test_told_is_new_each_time(self):
        facts = (("a", "b", 0), ("b", "c", 0), ("", "", -1))
        for call in (lambda: numbers_for(facts[:2]), lambda: ring_for(facts), lambda: chain_for(facts[:2], ("a", "c", 0))):
            told = call()
            kept = copy.deepcopy(told)
            self.assertIn(type(told), (list, dict))
            told.clear()
            self.assertEqual(call(), kept)


def some_facts(chance, terms, many, least, most):
    told = []
    for _ in range(many):
        if chance.random() < 0.01:
            told.append(("", "", -chance.randint(1, 3)))
        else:
            told.append((*chance.sample(terms, 2), chance.randint(least, most)))
    return tuple(told)


def is_chain(facts, places, one, other):
    """Whether the places are of a chain from one to other."""
    return (type(places) is list and len(places) > 0 and facts[places[0]][0] == one and facts[places[-1]][1] == other
            and all(type(place) is int and 0 <= place < len(facts) for place in places)
            and all(facts[here][1] == facts[there][0] for here, there in zip(places, places[1:])))


def comes_to(facts, places):
    return sum(facts[place][2] for place in places)


class Agree(unittest.TestCase):
    TERMS = ["", "a", "b", "#a", "out", "c"]

    def check(self, facts, sayings):
        closed = Closed(facts)
        self.assertIs(fits(facts), closed.fits)
        told = numbers_for(facts)
        self.assertEqual(told is not None, closed.fits)
        if closed.fits:
            self.assertIsNone(ring_for(facts))
            self.assertEqual(list(told), [term for term in closed.terms if term != ""])
            worths = {"": 0, **told}
            self.assertTrue(all(worths[one] <= worths[other] + most for one, other, most in facts))
        else:
            ring = ring_for(facts)
            self.assertTrue(is_chain(facts, ring, facts[ring[0]][0], facts[ring[0]][0]))
            self.assertLess(comes_to(facts, ring), 0)
        for one, other, most in sayings:
            least = closed.least.get((one, other)) if closed.fits else None
            self.assertEqual(least_between(facts, one, other), least)
            self.assertIs(follows(facts, (one, other, most)), not closed.fits or least is not None and least <= most)
            chain = chain_for(facts, (one, other, most))
            self.assertEqual(chain is not None, least is not None and least <= most)
            if chain is not None:
                self.assertTrue(is_chain(facts, chain, one, other))
                self.assertLessEqual(comes_to(facts, chain), most)

    def test_by_chance(self):
        chance = random.Random(1)
        fitting = 0
        for _ in range(600):
            facts = some_facts(chance, self.TERMS, chance.randint(0, 12), -3, 6)
            sayings = some_facts(chance, self.TERMS + ["z"], 6, -6, 12)
            self.check(facts, [saying for saying in sayings if saying[0] != saying[1]])
            fitting += fits(facts)
        self.assertTrue(150 < fitting < 550)

    def test_by_going_through_numbers(self):
        """What follows is so for all numbers for which the facts are."""
        chance = random.Random(2)
        terms = ["", "a", "b"]
        around = range(-9, 10)
        worths = [{"": 0, "a": a, "b": b} for a in around for b in around]
        for _ in range(150):
            facts = some_facts(chance, terms, chance.randint(1, 5), -2, 2)
            so = [worth for worth in worths if all(worth[one] <= worth[other] + most for one, other, most in facts)]
            self.assertIs(fits(facts), len(so) > 0)
            for one, other in itertools.permutations(terms, 2):
                for most in range(-5, 6):
                    always = all(worth[one] <= worth[other] + most for worth in so)
                    self.assertIs(follows(facts, (one, other, most)), always, (facts, one, other, most))

    def test_of_facts_in_another_order(self):
        chance = random.Random(3)
        for _ in range(200):
            facts = some_facts(chance, self.TERMS, chance.randint(1, 12), -2, 6)
            other = tuple(chance.sample(facts, len(facts)))
            self.assertIs(fits(facts), fits(other))
            ring, again = ring_for(facts), ring_for(other)
            self.assertEqual(ring and len(ring), again and len(again))
            for one, two in itertools.permutations(self.TERMS, 2):
                least = least_between(facts, one, two)
                self.assertEqual(least_between(other, one, two), least)
                if least is not None:
                    for most in (least, least + 1, least + 4):
                        self.assertEqual(len(chain_for(facts, (one, two, most))), len(chain_for(other, (one, two, most))))


if __name__ == "__main__":
    unittest.main()
