"""Point 11: chains and rings as short as any, of many facts and great numbers, in a short time."""

import itertools
import random
import time
import unittest

from strikehall.sayings import chain_for, fits, follows, least_between, need_facts, numbers_for, ring_for
from tests.test_sayings import comes_to, is_chain, some_facts

NAMES = [one + other for one in "klm" for other in "abcdefghijklmnopq"]
# Nought, and as many others as there may be beside it.
TERMS = [""] + NAMES[:39]
SHORT = 5.0


def shortest_by_trying(facts, one, other, most):
    """How long a chain is at the least, by going through all of one fact, of two and so on."""
    ends = {one: {0}}
    for many in range(1, 8):
        following = {}
        for term, sums in ends.items():
            for a, b, c in facts:
                if a == term:
                    following.setdefault(b, set()).update(total + c for total in sums)
        ends = following
        if any(total <= most for total in ends.get(other, ())):
            return many
    return None


class Shortest(unittest.TestCase):
    def test_chains(self):
        facts = (("a", "b", 1), ("b", "c", 1), ("c", "d", 1), ("a", "d", 9), ("a", "c", 4), ("d", "e", 0))
        for most, places in [(9, [3]), (10, [3]), (8, [4, 2]), (5, [4, 2]), (4, [0, 1, 2]), (3, [0, 1, 2]), (2, None)]:
            self.assertEqual(chain_for(facts, ("a", "d", most)), places)
        self.assertEqual(chain_for(facts, ("a", "e", 3)), [0, 1, 2, 5])
        self.assertEqual(chain_for(facts, ("a", "e", 5)), [4, 2, 5])

    def test_chains_by_trying(self):
        chance = random.Random(4)
        tried = 0
        for _ in range(400):
            facts = some_facts(chance, TERMS[:5], chance.randint(1, 9), -2, 5)
            if not fits(facts):
                continue
            for one, other in itertools.permutations(TERMS[:5], 2):
                most = chance.randint(-3, 9)
                told = chain_for(facts, (one, other, most))
                self.assertEqual(told and len(told), shortest_by_trying(facts, one, other, most))
                tried += told is not None and len(told) > 2
        self.assertGreater(tried, 20)

    def test_rings(self):
        facts = (("a", "b", 1), ("b", "c", 1), ("c", "a", -3), ("x", "y", -2), ("y", "x", 1))
        self.assertEqual(sorted(ring_for(facts)), [3, 4])
        self.assertEqual(sorted(ring_for(facts[:3])), [0, 1, 2])
        self.assertEqual(ring_for(facts + (("", "", -1),)), [5])
        self.assertEqual(ring_for((("", "", -1), ("", "", -1))), [0])

    def test_a_short_ring_ahead_of_long_ones(self):
        rings = [(("a", "b", 0), ("b", "a", -1)), (("c", "d", 0), ("d", "e", 0), ("e", "c", -1)),
                 (("f", "g", 1), ("g", "h", -3), ("h", "i", 0), ("i", "f", 1))]
        for order in itertools.permutations(rings):
            facts = tuple(fact for ring in order for fact in ring)
            self.assertEqual(sorted(facts[place] for place in ring_for(facts)), sorted(rings[0]))
        self.assertEqual(sorted(ring_for(rings[1] + rings[2])), [0, 1, 2])
        self.assertEqual(sorted(ring_for(rings[2] + rings[1])), [4, 5, 6])

    def test_rings_by_trying(self):
        chance = random.Random(5)
        lengths = set()
        for _ in range(400):
            facts = some_facts(chance, TERMS[:5], chance.randint(2, 9), -2, 4)
            told = ring_for(facts)
            if told is None:
                self.assertIs(fits(facts), True)
                continue
            lengths.add(len(told))
            tried = [shortest_by_trying(facts, term, term, -1) for term in TERMS[:5]]
            self.assertEqual(len(told), min(many for many in tried if many is not None))
            self.assertTrue(is_chain(facts, told, facts[told[0]][0], facts[told[0]][0]))
            self.assertLess(comes_to(facts, told), 0)
        self.assertTrue({1, 2, 3, 4} <= lengths)

    def test_no_longer_ring_than_that_of_one_round(self):
        # Going round twice would come to less, but is no shorter way.
        facts = (("a", "b", -1), ("b", "a", 0), ("b", "c", 0), ("c", "a", -5))
        self.assertEqual(sorted(ring_for(facts)), [0, 1])


class Great(unittest.TestCase):
    def setUp(self):
        self.start = time.process_time()

    def tearDown(self):
        self.assertLess(time.process_time() - self.start, SHORT)

    def shuffled(self, facts, chance):
        told = list(facts)
        chance.shuffle(told)
        return tuple(told)

    def test_long_chains(self):
        chance = random.Random(7)
        for step in (-1, 1, 0, -10 ** 299):
            facts = self.shuffled([(one, other, step) for one, other in zip(TERMS, TERMS[1:])], chance)
            self.assertEqual(len(facts), 39)
            self.assertEqual(least_between(facts, TERMS[0], TERMS[39]), 39 * step)
            places = chain_for(facts, (TERMS[0], TERMS[39], 39 * step))
            self.assertEqual(len(places), 39)
            self.assertTrue(is_chain(facts, places, TERMS[0], TERMS[39]))
            self.assertIsNone(chain_for(facts, (TERMS[0], TERMS[39], 39 * step - 1)))
            self.assertIs(follows(facts, (TERMS[0], TERMS[39], 39 * step - 1)), False)
            self.assertIsNone(least_between(facts, TERMS[39], TERMS[0]))

    def test_long_rings(self):
        chance = random.Random(8)
        for many in (2, 3, 20, 38, 39):
            for numbers in ([0] * (many - 1) + [-1], [10 ** 299] * (many - 1) + [-10 ** 299 * (many - 1) - 1]):
                ring = [(TERMS[k], TERMS[(k + 1) % many], numbers[k]) for k in range(many)]
                facts = self.shuffled(ring, chance)
                self.assertIs(fits(facts), False)
                self.assertEqual(sorted(ring_for(facts)), list(range(many)))
                self.assertIsNone(numbers_for(facts))
                self.assertIs(fits(facts[1:]), True)

    def many_facts(self, chance, wanted, least, most):
        """4000 facts with these among them, others of other Cs."""
        others = [(one, other, chance.randint(least, most)) for one in TERMS for other in TERMS if one != other]
        while len(wanted) + len(others) < 4000:
            others.append((*chance.sample(TERMS, 2), chance.randint(least, most)))
        return self.shuffled(wanted + others[:4000 - len(wanted)], chance)

    def test_4000_facts(self):
        chance = random.Random(9)
        chain = [(one, other, -1) for one, other in zip(TERMS, TERMS[1:])]
        for least, most in ((40, 60), (10 ** 299, 2 * 10 ** 299)):
            facts = self.many_facts(chance, chain, least, most)
            self.assertEqual(len(need_facts(facts)), 4000)
            self.assertEqual(least_between(facts, TERMS[0], TERMS[39]), -39)
            self.assertEqual(len(chain_for(facts, (TERMS[0], TERMS[39], -39))), 39)
            self.assertIsNone(chain_for(facts, (TERMS[0], TERMS[39], -40)))
            self.assertEqual(len(chain_for(facts, (TERMS[0], TERMS[39], 3 * most))), 1)
            worths = {"": 0, **numbers_for(facts)}
            self.assertEqual(len(worths), 40)
            self.assertTrue(all(worths[one] <= worths[other] + c for one, other, c in facts))
            self.assertIsNone(ring_for(facts))

    def test_rings_in_4000_facts(self):
        chance = random.Random(10)
        for many in (2, 7, 39):
            ring = [(TERMS[k], TERMS[(k + 1) % many], 0) for k in range(many - 1)] + [(TERMS[many - 1], TERMS[0], -1)]
            for least, most in ((1, 40), (1000, 2000)):
                facts = self.many_facts(chance, ring, least, most)
                places = ring_for(facts)
                self.assertEqual(sorted(facts[place] for place in places), sorted(ring))
                self.assertTrue(is_chain(facts, places, facts[places[0]][0], facts[places[0]][0]))
                self.assertIsNone(chain_for(facts, (TERMS[0], TERMS[1], 5)))

    def test_4000_facts_that_go_up_and_down(self):
        chance = random.Random(11)
        heights = {term: chance.randint(-10 ** 299, 10 ** 299) for term in TERMS}
        others = [(one, other, heights[one] - heights[other] + chance.randint(0, 9)) for one in TERMS for other in TERMS
                  if one != other]
        facts = self.shuffled(others, chance)
        self.assertIs(fits(facts), True)
        worths = {"": 0, **numbers_for(facts)}
        self.assertTrue(all(worths[one] <= worths[other] + c for one, other, c in facts))
        one, other = TERMS[0], TERMS[20]
        back = heights[other] - heights[one] - 1
        self.assertIs(fits(facts + ((other, one, back - 10 ** 3),)), False)
        self.assertGreaterEqual(len(ring_for(facts + ((other, one, back - 10 ** 3),))), 2)


if __name__ == "__main__":
    unittest.main()
