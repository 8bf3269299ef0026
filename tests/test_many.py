"""Points 4, 5, 7 and 8 of many programs."""

import random
import unittest

from strikehall.errors import BadText
from strikehall.programs import ahead_of, kinds_of, need_program, nodes_of
from strikehall.texts import program_text, read_program
from tests.making import NAMES, Maker

PROGRAMS = [Maker(seed).program() for seed in range(1000)]


class Many(unittest.TestCase):
    def test_back_and_forth(self):
        for made in PROGRAMS:
            self.assertIs(need_program(made), made)
            text = program_text(made)
            self.assertEqual(read_program(text), made)
            self.assertEqual(program_text(read_program(text)), text)

    def test_nodes_and_ways(self):
        for made in PROGRAMS:
            for f, (_, params, _, body) in enumerate(made[1]):
                nodes = nodes_of(made, f)
                self.assertEqual(nodes[0], body)
                for n, node in enumerate(nodes):
                    # By the way one comes from the whole body to that node.
                    reached = body
                    for number, which in ahead_of(made, f, n):
                        self.assertEqual(reached, nodes[number])
                        reached = reached[3 + which]
                    self.assertEqual(reached, node)
                lets = [node[1] for node in nodes if node[0] == "let"]
                self.assertEqual(list(kinds_of(made, f)), sorted([name for name, _ in params] + lets))

    def test_texts_with_another_word(self):
        chance = random.Random(0)
        for made in PROGRAMS:
            rows = program_text(made).split("\n")
            k = chance.randrange(len(rows))
            words = rows[k].split(" ")
            words[chance.randrange(len(words))] = chance.choice(NAMES + ["0", "a+1", "5", "", "give", "else", "row"])
            text = "\n".join(rows[:k] + [" ".join(words)] + rows[k + 1:])
            try:
                self.assertEqual(program_text(read_program(text)), text)
            except BadText as refused:
                self.assertIn(refused.row, range(len(rows) + 1))


if __name__ == "__main__":
    unittest.main()
