"""Point 8: by which row a text is refused."""

import unittest

from strikehall.errors import BadText
from strikehall.texts import program_text, read_program
from tests.samples import MIXED, MIXED_TEXT
from tests.test_names import WORDS

ROWS = MIXED_TEXT.split("\n")
HEAD = "fn f number a:number r:row"


def row_of(text):
    """The row by which the text is refused, None where it is read."""
    try:
        told = read_program(text)
    except BadText as refused:
        assert type(refused.row) is int
        return refused.row
    assert program_text(told) == text
    return None


def with_row(k, text):
    return "\n".join(ROWS[:k] + [text] + ROWS[k + 1:])


class Forms(unittest.TestCase):
    def bad_row(self, row, head=HEAD):
        """A row of a node that by its form is none; a fault in the names of a row ahead isn't told."""
        for ahead in ("", "given z z 0\n", "given 0 #a 1\n"):
            text = ahead + head + "\nlet q be zz\n" + row + "\ngive 0"
            self.assertEqual(row_of(text), 2 + ahead.count("\n"), row)

    def good_row(self, row, rest="\ngive 0"):
        self.assertIsNone(row_of(HEAD + "\n" + row + rest), row)

    def test_none_of_the_rows(self):
        for row in ("", " ", "x", "0", "give", "give ", "let", "let x", "let x be", "let x be ", "must", "must 0", "if",
                    "if 0", "else", "end", "given", "fn", "fn f", "give 0 0", "give 0 ", "let x be 0 0", "let x 0",
                    "let be 0", "x be 0", "let x sum 0", "let x sum 0 0 0", "let x long", "let x long r r",
                    "let x part r", "let x part r 0 0", "let x part 0 r", "let x with r 0", "let x with r 0 0 0",
                    "let x cut r", "let x cut r 0 0", "let x cut 0 0", "let x call", "must 0 0 0", "if 0 0 0", "give r:row",
                    "given 0 a 1", "fn g number", "GIVE 0", "Give 0", "let x Be 0", "let x give 0", "let x must 0 0",
                    "give x y", "be 0", "call g", "let x be a b", "let x long 0", "let x call 0", "let x call g+1",
                    "let x long r+1", "let x part r+1 0", "let x with r+0 0 0", "let x be #r", "give #r", "let #x be 0",
                    "let x+1 be 0", "let 0 be 0", "give 0\\n"):
            self.bad_row(row)

    def test_blanks(self):
        for row in ("give 0", "let x be 0", "let x call g 1", "must 0 a", "if 0 a", "let x part r a"):
            for other in (" " + row, "  " + row, row + " ", row.replace(" ", "  ", 1), row.replace(" ", "\t", 1),
                          "  ".join(row.rsplit(" ", 1)), "\t" + row, row.replace(" ", "")):
                self.bad_row(other)

    def test_atoms(self):
        for atom in ["0", "1", "4", "-1", "-4", "a", "a+1", "a-1", "a+4", "a-4"]:
            self.good_row("let x be " + atom)
            self.good_row("must 0 " + atom)
            self.good_row("give " + atom, "")
        for atom in ["5", "-5", "-0", "+0", "+1", "00", "01", "-01", "10", "--1", "a+0", "a-0", "a+5", "a-5", "a+01",
                     "a+-1", "a--1", "a++1", "a+", "a-", "+a", "-a", "a1", "1a", "1+a", "a+a", "a+1+1", "A", "a:", "1.0",
                     "9" * 300, "-" + "9" * 300, "a+" + "9" * 300, "0" * 300, "1" * 5000, "a-" + "1" * 5000,
                     "abcdefg", "abcdefg+1", "_", "a_", "0x1", "1_0", "1e0", "give", "be+1", "row-1", "number", "#a", ""]:
            for row in ("give {}", "let x be {}", "let x sum {} 0", "let x sum 0 {}", "let x part r {}",
                        "let x with r {} 0", "let x with r 0 {}", "let x cut r {}", "let x call f {}",
                        "let x call f 0 {}", "must {} 0", "must 0 {}", "if {} 0", "if 0 {}"):
                self.bad_row(row.format(atom))

    def test_words_are_no_names(self):
        for word in WORDS + ["", "abcdefg", "A", "a1"]:
            for row in ("let {} be 0", "let x be {}", "let x long {}", "let x part {} 0", "let x with {} 0 0",
                        "let x cut {} 0", "let x call {}", "let x call f {}", "give {}", "must {} 0", "if 0 {}",
                        "give {}+1"):
                self.bad_row(row.format(word))

    def test_heads(self):
        for head in ("fn f", "fn", "fn f num", "fn number", "fn f number ", "fn f number a", "fn f number a:", " fn f row",
                     "fn f number a:num", "fn f number :row", "fn f number a: row", "fn f number a:row:row", "fn 0 row",
                     "fn f number  a:row", "fn f number a:number,b:row", "fn abcdefg number", "fn f row a:row b:row c:row d:row",
                     "fn f number number:row", "fn fn number", "fn f Row", "fn f number a:Row", "fnf number", "FN f number",
                     "fn f number a=row", "fn  f number", "fn f a:row number", "fn f:number", "f number", "fn f+1 number"):
            self.assertEqual(row_of(head + "\ngive 0"), 0, head)
            self.assertEqual(row_of("given 0 0 0\n" + head + "\ngive 0"), 1, head)
            self.assertEqual(row_of("fn f number\ngive x\n" + head + "\ngive 0"), 2, head)
        for word in WORDS:
            self.assertEqual(row_of("fn " + word + " number\ngive 0"), 0)
            self.assertEqual(row_of("fn f number " + word + ":row\ngive 0"), 0)

    def test_given(self):
        for row in ("given", "given 0 a", "given 0 a 1 ", "given 0 a 1 1", " given 0 a 1", "given  0 a 1", "given 0 a 5",
                    "given 0 a -5", "given 0 a +1", "given 0 a -0", "given 0 a 01", "given 0 a", "given 1 a 0",
                    "given a 1 0", "given 00 a 0", "given #0 a 0", "given # a 0", "given ##r a 0", "given a+1 0 0",
                    "given a #abcdefg 0", "given out a 0", "given a #out 0", "given out 0 0", "given 0 #out 0",
                    "given 0 row 0", "given A 0 0", "given 0 a b", "given 0 a a", "Given 0 a 1", "given 0 a " + "9" * 300,
                    "given 0 -a 1", "given  a 1", "given 0  1", "give 0 a 1"):
            self.assertEqual(row_of(row + "\n" + HEAD + "\ngive 0"), 0, row)
            self.assertEqual(row_of("given b b 0\n" + row + "\n" + HEAD + "\ngive 0"), 1, row)

    def test_where_rows_stand(self):
        node = "\nlet x be 0\ngive x"
        self.assertIsNone(row_of("fn f number" + node))
        self.assertEqual(row_of("give 0"), 0)
        self.assertEqual(row_of("given 0 0 0\ngive 0"), 1)
        self.assertEqual(row_of("fn f number\nfn g number" + node), 1)
        self.assertEqual(row_of("fn f number\ngiven 0 0 0" + node), 1)
        self.assertEqual(row_of("fn f number\nelse" + node), 1)
        self.assertEqual(row_of("fn f number" + node + "\ngive 0"), 3)
        self.assertEqual(row_of("fn f number" + node + "\nelse\n give 0"), 3)
        self.assertEqual(row_of("fn f number" + node + "\ngiven 0 0 0"), 3)
        self.assertEqual(row_of("fn f number" + node + "\n"), 3)
        self.assertEqual(row_of("fn f number" + node + "\n\nfn g number" + node), 3)
        self.assertEqual(row_of("\nfn f number" + node), 0)

    def test_rows_around_ifs(self):
        good = ["fn f number", "if 0 0", " if 0 0", "  give 0", " else", "  give 0", "else", " must 0 0", " give 0"]
        self.assertIsNone(row_of("\n".join(good)))
        for k in range(1, 9):
            for other in (" " + good[k], good[k][1:], good[k].strip() if k > 1 else " if 0 0", good[k] + " "):
                if other != good[k]:
                    text = "\n".join(good[:k] + [other] + good[k + 1:])
                    self.assertEqual(row_of(text), k, text)
        for k in (4, 6):
            for other in (good[k].replace("else", "give 0"), good[k].replace("else", "Else"), "", good[k] + " 0", " " * k,
                          good[k].replace("else", "else if 0 0"), good[k].replace("else", "fn g number")):
                self.assertEqual(row_of("\n".join(good[:k] + [other] + good[k + 1:])), k, other)
        for k in (2, 3, 5, 7, 8):
            self.assertEqual(row_of("\n".join(good[:k] + ["else"] + good[k:])), k)
            self.assertEqual(row_of("\n".join(good[:k] + [" else"] + good[k:])), k)


class OneTooMany(unittest.TestCase):
    def test_given(self):
        for many in range(5):
            self.assertIsNone(row_of("given 0 a 0\n" * many + HEAD + "\ngive 0"))
        for many in (5, 6, 1000):
            self.assertEqual(row_of("given 0 a 0\n" * many + HEAD + "\ngive 0"), 4)
            self.assertEqual(row_of("given z z 0\n" * many + HEAD + "\ngive x"), 4)

    def test_functions(self):
        rows = [f"fn {name} number\ngive 0" for name in "abcdef"]
        for many in range(1, 5):
            self.assertIsNone(row_of("\n".join(rows[:many])))
        for many in (5, 6):
            self.assertEqual(row_of("\n".join(rows[:many])), 8)
            self.assertEqual(row_of("\n".join(rows[:many]).replace("give 0", "give x")), 8)
        self.assertEqual(row_of("\n".join(rows[:4] + ["fn e number"])), 8)

    def test_params(self):
        for many in range(4):
            self.assertIsNone(row_of("fn f number" + " a:row b:row c:row"[:many * 6] + "\ngive 0"))
        self.assertEqual(row_of("fn f number a:row b:row c:row d:row\ngive 0"), 0)
        self.assertEqual(row_of("fn g number\ngive x\nfn f number a:row b:row c:row d:row\ngive 0"), 2)
        self.assertEqual(row_of("fn f number" + " a:row" * 10 ** 5 + "\ngive 0"), 0)

    def test_nodes(self):
        for many in range(12):
            self.assertIsNone(row_of("fn f number\n" + "must 0 0\n" * many + "give 0"))
        for many in (12, 13, 14, 1000):
            self.assertEqual(row_of("fn f number\n" + "must 0 0\n" * many + "give 0"), 13)
            self.assertEqual(row_of("fn f number\n" + "must x 0\n" * many + "give 0"), 13)

    def test_nodes_of_each_function_by_itself(self):
        def text(*many):
            return "\n".join(f"fn {name} number\n" + "must 0 0\n" * (nodes - 1) + "give 0" for name, nodes in zip("abcd", many))
        self.assertIsNone(row_of(text(12, 12, 12, 12)))
        self.assertIsNone(row_of(text(12, 1, 12, 3)))
        self.assertEqual(row_of(text(1, 13)), 15)
        self.assertEqual(row_of(text(2, 3, 1, 13)), 22)
        self.assertEqual(row_of(text(12, 13)), 26)

    def test_nodes_in_ifs(self):
        def text(one, other):
            return "fn f number\nif 0 0\n" + " must 0 0\n" * one + " give 0\nelse\n" + " must 0 0\n" * other + " give 0"
        self.assertIsNone(row_of(text(9, 0)))
        self.assertIsNone(row_of(text(0, 9)))
        # An else is no node: it may stand behind the twelfth one, the thirteenth one behind it may not.
        self.assertEqual(row_of(text(10, 0)), 14)
        self.assertEqual(row_of(text(11, 0)), 13)
        self.assertEqual(row_of(text(0, 10)), 14)
        self.assertEqual(row_of(text(4, 6)), 14)
        cut = text(10, 0).rsplit("\n", 1)[0]
        self.assertEqual(row_of(cut), 14)
        self.assertEqual(row_of(cut.rsplit("\n", 1)[0]), 13)

    def test_many_args_are_no_matter_of_form(self):
        many = " 0" * 1000
        self.assertEqual(row_of("fn f number\nlet x call g" + many + "\ngive 0\nfn g number\ngive 0"), 1)
        self.assertEqual(row_of("fn f number\nlet x call g" + many + "\ngive 0\nfn g number\ngive 9"), 4)


class Lacking(unittest.TestCase):
    def test_each_cut(self):
        # Behind whole functions nothing lacks, but calls of those behind the cut fail.
        whole = {ROWS.index("fn g number n:number s:row"): ROWS.index("let x call g a-1 r"),
                 ROWS.index("fn h row r:row"): ROWS.index("let u call h t")}
        for k in range(1, len(ROWS)):
            self.assertEqual(row_of("\n".join(ROWS[:k])), whole.get(k, k), k)

    def test_all_rows(self):
        self.assertEqual(row_of("fn f number"), 1)
        self.assertEqual(row_of("fn f number\nlet x be 0"), 2)
        self.assertEqual(row_of("fn f number\nif 0 0\n give 0"), 3)
        self.assertEqual(row_of("fn f number\nif 0 0\n give 0\nelse"), 4)
        self.assertEqual(row_of("given 0 a 0"), 1)
        self.assertEqual(row_of("given 0 a 0\n" * 3 + "given 0 a 0"), 4)
        self.assertEqual(row_of("fn f number\ngive 0\nfn g number"), 3)

    def test_ahead_of_names(self):
        self.assertEqual(row_of("given z z 0\nfn f number a:row a:row\nlet x be y"), 3)
        self.assertEqual(row_of("fn f number\ngive x\nfn f number"), 3)

    def test_no_rows(self):
        self.assertEqual(row_of(""), 0)
        self.assertEqual(row_of("\n"), 0)
        self.assertEqual(row_of("\n" * 10 ** 5), 0)


class Names(unittest.TestCase):
    def test_heads(self):
        self.assertEqual(row_of("fn f number a:row a:row\ngive 0"), 0)
        self.assertEqual(row_of("fn f number a:row b:row a:number\ngive 0"), 0)
        self.assertEqual(row_of("fn f number\ngive 0\nfn f number\ngive 0"), 2)
        self.assertEqual(row_of("fn f number\ngive 0\nfn g number\ngive 0\nfn f number\ngive 0"), 4)
        self.assertEqual(row_of("fn f number\ngive 0\nfn g number a:row a:row\ngive x"), 2)
        self.assertEqual(row_of("fn f number\ngive x\nfn f number a:row a:row\ngive x"), 1)

    def test_lets(self):
        head = HEAD + "\n"
        self.assertEqual(row_of(head + "let a be 0\ngive 0"), 1)
        self.assertEqual(row_of(head + "let r be 0\ngive 0"), 1)
        self.assertEqual(row_of(head + "let x be 0\nlet x be 0\ngive 0"), 2)
        self.assertEqual(row_of(head + "let x be 0\nlet y be 0\nmust 0 0\nlet x be 0\ngive q"), 4)
        self.assertEqual(row_of(head + "if 0 0\n let x be 0\n give x\nelse\n let x be 0\n give x"), 5)
        self.assertEqual(row_of(head + "if 0 0\n let x be 0\n give x\nelse\n let x cut r 0\n give x"), 5)
        self.assertEqual(row_of(head + "let x be y\nlet x be 0\ngive 0"), 1)
        self.assertEqual(row_of(head + "let x be x\ngive 0"), 1)

    def test_uses(self):
        for row in ("give b", "give r", "give r+1", "give b-1", "let x be r", "let x be b",
                    "let x be r+1", "let x sum a r", "let x sum r a", "let x long a", "let x long b", "let x part a a",
                    "let x part r r", "let x with r a r", "let x with r r a", "let x with a a a", "let x cut r r",
                    "let x cut a a", "must a r", "must r a", "must b a", "must a b", "let x call g a r", "let x call g r a",
                    "let x call g r+1", "let x call g", "let x call g r r", "let x call g a", "let x call g b",
                    "let x call g 1", "let x call f a r", "let x call h r", "let x call g r r r r", "let x call x r"):
            ends = "" if row.startswith("give") else "\ngive q"
            text = HEAD + "\nmust 0 0\n" + row + ends + "\nfn g number r:row\ngive p"
            self.assertEqual(row_of(text), 2, row)
        for row in ("if a r", "if r a", "if b a", "if a b"):
            self.assertEqual(row_of(HEAD + "\n" + row + "\n give q\nelse\n give q"), 1, row)

    def test_ways(self):
        head = HEAD + "\n"
        self.assertEqual(row_of(head + "if 0 0\n let x be 0\n give x\nelse\n give x"), 5)
        self.assertEqual(row_of(head + "if 0 0\n give x\nelse\n let x be 0\n give x"), 2)
        self.assertEqual(row_of(head + "if 0 0\n give x\nelse\n let x cut r 0\n give x"), 2)
        self.assertEqual(row_of(head + "if x 0\n let x be 0\n give x\nelse\n give 0"), 1)
        self.assertIsNone(row_of(head + "let x be 0\nif x 0\n let y be x\n give y\nelse\n let z be x\n give z"))

    def test_kinds_given(self):
        self.assertEqual(row_of("fn f row r:row\nif 0 0\n give r\nelse\n give 0"), 4)
        self.assertEqual(row_of("fn f row r:row\nlet x be 0\ngive x"), 2)
        self.assertEqual(row_of("fn f number r:row\nlet x cut r 0\ngive x"), 2)
        self.assertEqual(row_of("fn f number\nlet x call g\ngive x\nfn g row\nlet y call g\ngive y"), 2)
        self.assertEqual(row_of("fn f row\nlet x call g\ngive x\nfn g number\nlet y call g\ngive y"), 2)

    def test_calls(self):
        head = "fn f number\nlet x call {}\ngive 0\nfn g number\nlet x call {}\ngive 0"
        self.assertIsNone(row_of(head.format("g", "g")))
        self.assertEqual(row_of(head.format("f", "g")), 1)
        self.assertEqual(row_of(head.format("g", "f")), 4)
        self.assertEqual(row_of(head.format("h", "f")), 1)
        self.assertEqual(row_of(head.format("g", "h")), 4)

    def test_of_like_names_the_first(self):
        text = "fn f number\nlet x call g {}\ngive 0\nfn g number a:number\ngive 0\nfn g number\ngive 0"
        self.assertEqual(row_of(text.format("0")), 5)
        self.assertEqual(row_of(text.replace(" {}", "")), 1)
        text = "fn f number\ngive 0\nfn g number\nlet x call f\ngive 0\nfn f number\ngive 0"
        self.assertEqual(row_of(text), 3)

    def test_given(self):
        def row(*given, head="fn f number a:number r:row"):
            return row_of("\n".join(["given " + saying for saying in given] + [head, "give 0", "fn g row z:number", "give 0"]))
        for saying in ("0 0 1", "a a 0", "#r #r 1", "0 b 1", "b 0 1", "0 r 1", "r 0 0", "#a 0 0", "0 #a 0", "a #b 0",
                       "z 0 0", "0 z 0", "g 0 0", "f 0 0", "x x 0"):
            self.assertEqual(row(saying), 0, saying)
            self.assertEqual(row("0 a 1", saying), 1, saying)
            self.assertEqual(row("0 a 1", "#r a 0", saying, saying), 2, saying)
        for saying in ("0 a 1", "a 0 -4", "#r a 4", "a #r 0", "0 #r 0", "#r 0 0"):
            # Behind GIVEN the row of the last give is refused.
            self.assertEqual(row(saying, saying), 5, saying)

    def test_given_by_the_first_head_whatever_is_wrong_there(self):
        head = "fn f number a:number a:row\ngive 0"
        self.assertEqual(row_of("given a #a 0\n" + head), 1)
        self.assertEqual(row_of("given a #b 0\n" + head), 0)

    def test_form_ahead_of_names(self):
        bad_names = with_row(0, "given z z 0")
        self.assertEqual(row_of(bad_names), 0)
        for k in range(1, len(ROWS)):
            rows = bad_names.split("\n")
            self.assertEqual(row_of("\n".join(rows[:k] + ["@"] + rows[k + 1:])), k)
        self.assertEqual(row_of(with_row(4, "let x call no 0") + "\nfn"), len(ROWS))


class Changed(unittest.TestCase):
    """Whatever differs from a program's own text by a little is refused, or another program's own text."""

    def test_signs(self):
        lower = "abz09 -+#:\nA_"
        for k in range(len(MIXED_TEXT)):
            for sign in lower:
                row_of(MIXED_TEXT[:k] + sign + MIXED_TEXT[k:])
                row_of(MIXED_TEXT[:k] + sign + MIXED_TEXT[k + 1:])
            row_of(MIXED_TEXT[:k] + MIXED_TEXT[k + 1:])

    def test_rows(self):
        for k, row in enumerate(ROWS):
            self.assertEqual(row_of(with_row(k, "@")), k)
            self.assertEqual(row_of(with_row(k, "")), k)
            self.assertEqual(row_of(with_row(k, " " + row)), k)
            self.assertEqual(row_of(with_row(k, row + " ")), k)
            self.assertEqual(row_of(with_row(k, row + " @")), k)
            self.assertEqual(row_of("\n".join(ROWS[:k] + [""] + ROWS[k:])), k)
            row_of("\n".join(ROWS[:k] + ROWS[k + 1:]))
            row_of("\n".join(ROWS[:k] + [row] + ROWS[k:]))
            for other in ROWS:
                row_of(with_row(k, other))

    def test_words(self):
        words = sorted(set(MIXED_TEXT.split()))
        for k, row in enumerate(ROWS):
            blanks = len(row) - len(row.lstrip())
            parts = row.split()
            for j in range(len(parts)):
                row_of(with_row(k, " " * blanks + " ".join(parts[:j] + parts[j + 1:])))
                for word in words:
                    row_of(with_row(k, " " * blanks + " ".join(parts[:j] + [word] + parts[j + 1:])))
                    row_of(with_row(k, " " * blanks + " ".join(parts[:j] + [word] + parts[j:])))

    def test_the_text_itself(self):
        self.assertEqual(read_program(MIXED_TEXT), MIXED)
        self.assertIsNone(row_of(MIXED_TEXT))
        self.assertEqual(row_of(MIXED_TEXT + "\n"), len(ROWS))
        self.assertEqual(row_of("\n" + MIXED_TEXT), 0)
        self.assertEqual(row_of(" " + MIXED_TEXT), 0)
        self.assertEqual(row_of(MIXED_TEXT + " "), len(ROWS) - 1)
        self.assertEqual(row_of(MIXED_TEXT.replace("\n", "\n\n", 1)), 1)
        self.assertEqual(row_of(MIXED_TEXT.replace("\n", " ; ")), 0)

    def test_great_texts(self):
        for text in ("x" * 10 ** 6, " " * 10 ** 6, "give 0\n" * 10 ** 5, "given 0 a " + "0" * 10 ** 6, "-" * 10 ** 6):
            self.assertEqual(row_of(text), 0)
        self.assertEqual(row_of("fn f number\n" + "".join(" " * k + "if 0 0\n" for k in range(1000))), 13)


if __name__ == "__main__":
    unittest.main()
