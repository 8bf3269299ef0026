"""Point 60: the desk."""

import random
import time
import unittest

from strikehall.anew import changed, things_of, touched_by
from strikehall.desk import Desk
from strikehall.errors import BadText
from strikehall.faults import end_text, inputs_text
from strikehall.programs import nodes_of
from strikehall.runs import run
from strikehall.shown import dead_nodes, open_nodes, unshown_at
from strikehall.strikes import rounds_of, standing
from strikehall.texts import program_text
from strikehall.trying import first_break, first_fault
from strikehall.ways import candidates, end_terms, entry_terms, needed_at
from tests.making import Maker
from tests.naive import all_nodes
from tests.samples import MIXED_TEXT, Text, anything
from tests.test_anew import change_of
from tests.test_runs import some_inputs

TEXT = """given 0 n -1
fn main number n:number r:row
let m long r
if n m
 let x part r n-1
 give x
else
 let y call f n
 give y
fn f number a:number
must 0 a
give a+1"""
SHORT = 3.0


class Base(unittest.TestCase):
    def setUp(self):
        self.desk = Desk(TEXT)

    def says(self, line, told):
        self.assertEqual(self.desk.say(line), told, line)

    def no_line(self, *lines):
        for line in lines:
            self.says(line, "no line")


class Told(Base):
    def test_stands(self):
        self.says("stands main entry", "0 n -1")
        self.says("stands main end", "0 #r 0, 0 #r 1, 0 n -1, 0 n 0, 0 n 1")
        self.says("stands f entry", "0 a -1, 0 a 0, 0 a 1")
        self.says("stands f end", "0 a -1, 0 a 0, 0 a 1, 0 out -1, 0 out 0, 0 out 1, a out -1, a out 0, a out 1, out a 1")
        self.desk = Desk("fn main number n:number m:number\nlet x sum n m\ngive x")
        self.says("stands main entry", "none")
        self.says("stands main end", "none")

    def test_stands_of_rows(self):
        self.desk = Desk("fn main row r:row\nlet s cut r 1\ngive s")
        self.says("stands main end", "0 #out -1, 0 #out 0, 0 #out 1, 0 #r -1, 0 #r 0, 0 #r 1, #out 0 1, #out #r 0, #out #r 1")

    def test_needs(self):
        self.says("needs main 0", "none")
        self.says("needs main 2", "0 n -1 shown, n #r 0 shown")
        self.says("needs main 4", "0 n -1 shown, 0 n 0 shown, 0 n 1 shown")
        self.says("needs f 0", "0 a 0 shown")
        self.desk = Desk("fn main number n:number r:row\nlet x part r n\nlet s cut r -1\nmust 1 0\nmust 2 1\ngive 0")
        self.says("needs main 0", "0 n 0 open, n #r -1 open")
        self.says("needs main 1", "0 0 -1 open, 0 #r 1 shown")
        self.says("needs main 2", "0 0 -1 shown")
        self.says("needs main 3", "0 0 -1 shown")
        self.desk = Desk("given 0 n 0\nfn main number n:number r:row\nlet x part r n\ngive 0")
        self.says("needs main 0", "0 n 0 shown, n #r -1 open")

    def test_open_and_dead(self):
        self.says("open", "none")
        self.says("dead", "none")
        self.desk = Desk("fn main number n:number\nmust n 0\nif n 0\n let x call g n\n give x\nelse\n must 1 0\n"
                         " give 0\nfn g number b:number\n"
                         "must 0 b\ngive b")
        self.says("open", "main 0, g 0")
        self.says("dead", "main 4, main 5")

    def test_rounds(self):
        self.says("rounds", "31, 8, 3")
        self.desk = Desk("fn main number\nlet x call f\ngive x\nfn f number\nlet x call f\ngive x")
        self.says("rounds", "none")

    def test_run(self):
        for line, told in [("run 1 [5]", "give 5"), ("run 2 [5,-7]", "give -7"), ("run 3 [1,2]", "give 4"), ("run 9 []", "give 10"),
                           ("run 5 [1,2,3,4,9]", "give 9"), ("run 1 [-9]", "give -9")]:
            self.says(line, told)
        self.desk = Desk("fn main row r:row n:number\nlet x part r n\nlet s with r n x\nlet t call f s\ngive t\n"
                         "fn f row u:row\nlet x call f u\n"
                         "give x")
        self.says("run [1] 1", "fault part main 0")
        self.says("run [1] 0", "limit")
        self.desk = Desk("fn main row r:row\nlet s cut r 1\ngive s")
        self.says("run [4,5]", "give [4]")
        self.says("run []", "fault cut main 0")
        self.desk = Desk("fn main number\nlet x call f\ngive x\nfn f number\nmust 1 0\ngive 0")
        self.says("run", "fault must f 0")

    def test_run_by_the_limit_300(self):
        # Of n the run has 8 + 4 (9 n + 1) steps.
        self.desk = Desk("fn main number n:number\nlet a sum n n\nlet b sum a a\nlet c sum b b\nlet d sum c n+1\n"
                         "let x call f d\ngive x\n"
                         "fn f number n:number\nif n 0\n give 0\nelse\n let u be 1\n let m call f n-1\n give m")
        self.says("run 8", "give 0")
        self.says("run 9", "limit")

    def test_try(self):
        self.says("try 4", "none")
        self.says("try 0", "none")
        self.desk = Desk("fn main number n:number r:row\nif n 2\n give 0\nelse\n must n 3\n let x part r 0\n give x")
        self.says("try 2", "none")
        self.says("try 3", "3 [] : fault part main 3")
        self.desk = Desk("fn main number r:row\nlet n long r\nmust n 2\nlet x part r n-1\nmust x -1\ngive 0")
        self.says("try 4", "[] : fault part main 2")
        self.desk = Desk("given 0 #r -1\nfn main number r:row\nlet n long r\nmust n 2\nlet x part r n-1\nmust x 0\ngive 0")
        self.says("try 1", "none")
        self.says("try 2", "[1] : fault must main 3")
        self.desk = Desk("given 0 #r -2\nfn main number r:row\nlet n long r\nlet x part r n-1\nmust 0 x\ngive 0")
        self.says("try 4", "[0,-1] : fault must main 2")
        self.desk = Desk("fn main number\nmust 1 0\ngive 0")
        self.says("try 0", "nothing : fault must main 0")

    def test_break(self):
        self.says("break main end 0 out 0 4", "1 [-1]")
        self.says("break main end 0 out 0 1", "none")
        self.says("break f entry a 0 1 4", "2 []")
        self.says("break f end out a 0 4", "1 []")
        self.says("break f end out a 1 4", "none")
        self.says("break main entry n 0 0 1", "1 []")
        self.says("break main entry n #r 0 4", "1 []")
        self.says("break main entry #r 0 0 4", "1 [0]")
        self.says("break f end 0 out -" + "9" * 300 + " 4", "1 []")
        self.says("break f end 0 out " + "9" * 300 + " 4", "none")
        self.desk = Desk("fn main number\nlet x call f 1\nmust x 0\ngive 0\nfn f number a:number\ngive a")
        self.says("break f entry a 0 0 0", "nothing")
        self.desk = Desk("fn main row r:row\nlet x call f r\ngive x\nfn f row s:row\nlet x call f s\ngive x")
        self.says("break f entry #s 0 0 2", "[0]")
        self.says("break main end #r #out 0 2", "none")

    def test_break_tells_inputs_alone_and_try_the_end_too(self):
        self.desk = Desk("fn main number n:number\nlet z call more n\ngive z\nfn more number x:number\ngive x+1")
        self.says("break more end out x 0 1", "0")
        self.says("break more entry x 0 0 1", "1")
        self.says("break more entry 0 x 0 1", "-1")
        self.says("break more end out x 1 1", "none")
        self.says("try 1", "none")
        faults = "\nlet z call next 1\ngive z\nfn next number x:number\nmust x 0\ngive 0"
        for params, told in (("", "nothing"), (" r:row", "[]"), (" n:number", "0"), (" n:number r:row", "0 []"),
                             (" r:row s:row n:number", "[] [] 0")):
            self.desk = Desk("fn main number" + params + faults)
            self.says("break next entry x 0 0 0", told)
            self.says("break next entry x 0 0 4", told)
            self.says("break next entry x 0 1 4", "none")
            self.says("try 0", told + " : fault must next 0")
        self.desk = Desk("given 0 #r -2\nfn main number r:row\nlet a part r 0\nlet b part r 1\nlet z call f b\ngive 0\n"
                         "fn f number x:number\nlet y call f x\ngive y")
        self.says("break f entry x 0 0 2", "none")
        self.says("break f entry x 0 0 3", "[0,1]")
        self.says("break f entry x 0 1 4", "[0,2]")
        self.says("try 4", "none")

    def test_break_and_try_by_the_limit_300(self):
        # Just 4 is tried. The last node of main stands at the step 300, or by one more node ahead at the step 301.
        for more, broken, faulty in (("", "4", "4 : fault must main 5"), ("let u be 0\n", "none", "none")):
            text = ("given 0 n -4\nfn main number n:number\n" + more + "let a sum n n\nlet b sum a a+2\nlet c sum b b\n"
                    "let d sum c c\nlet x call f d+1\n{}give x\n"
                    "fn f number n:number\nif n 0\n give 0\nelse\n let u be 1\n let m call f n-1\n give m")
            self.desk = Desk(text.format(""))
            self.says("run 4", "give 0" if more == "" else "limit")
            self.says("break main end n out 3 4", broken)
            self.says("break main end n out 4 4", "none")
            self.says("break main end n out 3 3", "none")
            self.desk = Desk(text.format("must x -1\n"))
            self.says("try 4", faulty)
            self.says("try 3", "none")

    def test_break_by_numbers_of_more_figures_than_there_may_be(self):
        for figures in (301, 900, 901, 5000):
            self.says("break f end 0 out -" + "9" * figures + " 4", "1 []")
            self.says("break f end 0 out " + "1" + "0" * figures + " 4", "none")

    def test_program(self):
        self.says("program", " ; ".join(TEXT.split("\n")))
        self.desk = Desk(MIXED_TEXT)
        self.says("program", MIXED_TEXT.replace("\n", " ; "))

    def test_names_that_are_the_desks_own_words(self):
        self.desk = Desk("fn open number open:number\nlet none call stands open\nlet needs call end none\ngive needs\n"
                         "fn stands number entry:number\nmust 0 entry\ngive entry\nfn end number end:number\ngive end\n"
                         "fn run row drop:row\ngive drop")
        self.says("stands end end", "0 end 0, 0 end 1, 0 out 0, 0 out 1, end out 0, end out 1, out end 0, out end 1")
        self.says("stands stands entry", "none")
        self.says("needs stands 0", "0 entry 0 open")
        self.says("needs open 0", "none")
        self.says("open", "stands 0")
        self.says("dead", "run 0")
        self.says("run -1", "fault must stands 0")
        self.says("try 4", "-1 : fault must stands 0")
        self.says("break end end end out -1 0", "0")
        self.says("break stands entry entry 0 2 4", "3")
        self.says("gone", "open end, stands end, stands entry, end end, end entry, run end, run entry")
        self.says("put 3 fn put number", "refused badtext 10")
        self.says("put 3 fn put number ; give 0", "done")
        self.says("gone", "put end, put entry")
        self.says("drop", "done")
        self.says("stands run entry", "no line")

    def test_told_is_a_text_alike_each_time(self):
        for line in ("stands main end", "needs main 2", "open", "dead", "rounds", "run 1 [5]", "try 4", "gone", "looked", "program",
                     "break main end 0 out 0 4", "nothing", "drop", None):
            told = self.desk.say(line)
            self.assertIs(type(told), str)
            self.assertEqual(Desk(TEXT).say(line), told)


class Changes(Base):
    def test_put_behind_all_then_back(self):
        self.says("gone", "main end, f end, f entry")
        self.says("looked", "3")
        self.says("put 2 fn g number ; must 1 0 ; give 0", "done")
        self.says("open", "g 0")
        self.says("dead", "g 1")
        self.says("gone", "g end, g entry")
        self.says("looked", "5")
        self.says("program", " ; ".join(TEXT.split("\n")) + " ; fn g number ; must 1 0 ; give 0")
        self.says("back", "done")
        self.says("gone", "none")
        self.says("looked", "5")
        self.says("program", " ; ".join(TEXT.split("\n")))
        self.says("stands g end", "no line")
        self.says("back", "refused badquestion")
        self.says("gone", "none")

    def test_put_in_the_place_of_one(self):
        self.says("put 1 fn f number b:number ; give b-1", "done")
        self.says("gone", "main end, f end, f entry")
        self.says("run 3 [1,2]", "give 2")
        self.says("stands f end", "0 b -1, 0 b 0, 0 b 1, 0 out 0, 0 out 1, b out 1, out b -1, out b 0, out b 1")
        self.says("put 0 fn other number n:number ; give n", "done")
        self.says("stands main end", "no line")
        self.says("run 3", "give 3")
        self.says("program", "given 0 n -1 ; fn other number n:number ; give n ; fn f number b:number ; give b-1")
        self.says("gone", "other end, f end, f entry")
        self.says("looked", "9")

    def test_rows_with_ifs(self):
        rows = "fn f number a:number ; if a 0 ;  give 0 ; else ;  if a 1 ;   give 1 ;  else ;   give a"
        self.says("put 1 " + rows, "done")
        self.says("run 3 []", "give 3")
        self.says("program", " ; ".join(TEXT.split("\n")[:9]) + " ; " + rows)

    def test_drop(self):
        self.says("drop", "refused badprogram 0")
        self.says("put 2 fn g number ; give 0", "done")
        self.says("drop", "done")
        self.says("gone", "none")
        self.says("looked", "5")
        self.says("drop", "refused badprogram 0")
        self.says("put 0 fn main number n:number ; give n", "done")
        self.says("drop", "done")
        self.says("drop", "refused badprogram -1")
        self.says("program", "given 0 n -1 ; fn main number n:number ; give n")
        self.says("back", "done")
        self.says("back", "done")
        self.says("back", "done")
        self.says("back", "done")
        self.says("back", "refused badquestion")
        self.says("program", " ; ".join(TEXT.split("\n")))

    def test_bad_texts_by_all_rows(self):
        # Ahead of f there are 9 rows, ahead of main 1.
        for line, row in [
                ("put 1 fn f number a:number", 10), ("put 1 fn f number a:number ; give", 10),
                ("put 1 fn f number a:number ; give 0 ; give 0", 11),
                ("put 1 fn f number a:number ; ", 10), ("put 1 fn f number a:number ; if a 0 ; give 0", 11),
                ("put 1 fn f number a:number ; if a 0 ;  give 0", 12), ("put 1 fn f number a:number ; give b", 10),
                ("put 1 fn f number ; give 0", 7), ("put 1 fn main number a:number ; give 0", 7),
                ("put 1 fn g number a:number ; give 0", 7), ("put 1 fn", 9), ("put 1 fn f", 9),
                ("put 1 fn f number a:number ;  give 0", 10),
                ("put 1 fn f number a:number ; give 0 ", 10), ("put 1 fn f number a:number ;give 0", 9),
                ("put 1  fn f number a:number ; give 0", 9),
                ("put 1    fn f number a:number ; give 0", 9), ("put 1 fn  f number a:number ; give 0", 9),
                ("put 2 fn g number", 13), ("put 2 fn g number ; give x", 13), ("put 2 fn f number ; give 0", 12),
                ("put 2 fn g number ; give 0 ; given 0 n 1", 14), ("put 0 fn main number", 2), ("put 0 fn main number ; give 0", 0),
                ("put 0 fn main number m:number ; give 0", 0), ("put 0 fn main number n:row ; give 0", 0),
                ("put 0 fn main number n:number", 2),
                ("put 0 fn f number n:number ; give 0", 3), ("put 2 fn main number ; give 0", 12),
                ("put 0 fn main row n:number ; give n", 2)]:
            self.says(line, "refused badtext " + str(row))
        self.says("program", " ; ".join(TEXT.split("\n")))
        self.says("gone", "main end, f end, f entry")
        self.says("looked", "3")
        self.says("back", "refused badquestion")

    def test_rows_of_each_kind(self):
        """In front of a give, in a function of a number a and a row s: what is read, what is refused at that row."""
        good = ["let x be a-4", "let x be 4", "let x sum a+1 -3", "let x long s", "let x part s a", "let x with s a+1 2",
                "let x cut s a", "let x call f a", "let x call g a s", "must a 3", "must -1 a+2"]
        form = ["let x be", "let x be a b", "let x be 5", "let x be a+5", "let x be a-0", "let x sum a", "let X be a",
                "let x long", "let x long 1",
                "let x part s", "let x with s a", "let x cut a+1 s", "let x call", "let x call 1", "let x give a",
                "let if be a", "let x", "let",
                "must a", "must a b c", "must", "else", "if a", " must a 0", "must  a 0", "give", "give a 0", "given 0 a 1", "", "a"]
        misfit = ["let x be b", "let x be s", "let a be 0", "let s be 0", "let x sum a s", "let x long a", "let x part a a",
                  "let x part s s",
                  "let x with a a a", "let x with s a s", "let x cut a a", "let x call main a s", "let x call h a",
                  "let x call f", "let x call f s",
                  "let x call f a a", "let x call g s a", "must a s", "must b 0", "must s s"]
        head = "put 2 fn g number a:number s:row"
        for row in good:
            self.says(f"{head} ; {row} ; give a", "done")
            self.says(f"{head} ; if a 0 ;  {row} ;  give a ; else ;  {row.replace(' x ', ' y ')} ;  give a", "done")
            self.assertIn(f" ; if a 0 ;  {row} ;  give a ; else", self.desk.say("program"))
        for row in form + misfit:
            self.says(f"{head} ; {row} ; give a", "refused badtext 13")
            self.says(f"{head} ; let z be a ; if z a ;  give a ; else ;  {row} ;  give a", "refused badtext 17")
        for row in ("give s", "give b", "give"):
            self.says(f"{head} ; {row}", "refused badtext 13")
        self.says("put 2 fn g row a:number s:row ; give a", "refused badtext 13")
        self.says("put 2 fn g row a:number s:row ; give s", "done")
        for params in ("a:numbers", "a", "a:", ":row", "a:number:row", "a:row b:row c:row d:row", "if:row", "A:row"):
            self.says(f"put 2 fn g number {params} ; give 0", "refused badtext 12")

    def test_a_fifth_function(self):
        self.says("put 2 fn g number ; give 0", "done")
        self.says("put 3 fn h number ; give 0", "done")
        self.says("put 4 fn i number ; give 0", "refused badtext 16")
        self.says("put 5 fn i number ; give 0", "refused badquestion")
        self.says("put 3 fn i number ; give 0", "done")

    def test_a_number_beyond(self):
        for k in range(3, 10):
            self.says(f"put {k} fn g number ; give 0", "refused badquestion")
            # Ahead of what is wrong in the text.
            self.says(f"put {k} fn", "refused badquestion")
            self.says(f"put {k} fn ; fn", "no line")
        self.says("looked", "3")

    def test_just_the_first_row_has_fn(self):
        self.no_line("put 2", "put 2 ", "put 2 give 0", "put 2 given 0 n 1 ; fn g number ; give 0",
                     "put 2 fng number ; give 0", "put 2 FN g number ; give 0",
                     "put 2 fn g number ; give 0 ; fn h number ; give 0", "put 2 fn ; fn", "put 2  ; fn g number ; give 0",
                     "put 2 ; fn g number ; give 0",
                     "put 2 fn g number ; give 0 ; fn", "put 2 fn g number ; give 0 ;  fn h number", "put", "put ", "put  ",
                     "put fn g number ; give 0",
                     "put -1 fn g number ; give 0", "put 02 fn g number ; give 0", "put 10 fn g number ; give 0",
                     "put x fn g number ; give 0",
                     "put  2 fn g number ; give 0", " put 2 fn g number ; give 0", "put +2 fn g number ; give 0",
                     "put 2fn g number ; give 0",
                     "put 2\tfn g number ; give 0", "Put 2 fn g number ; give 0", "put 2 fn g number\ngive 0",
                     "put 2 fn g number ; give 0\n")
        self.says("program", " ; ".join(TEXT.split("\n")))

    def test_what_is_refused_changes_nothing(self):
        self.says("put 2 fn g number ; give 0", "done")
        for line in ("run", "run 0 []", "break f entry 0 0 1 2", "drop 1", "put 9 fn g number", "put 1 fn g number ; give 0",
                     "put 2 fn",
                     "put 1 fn f number ; give 0", "stands h entry", "open 1", "nothing"):
            self.assertIn(self.desk.say(line).split(" ")[0], ("refused", "no"))
            self.says("gone", "g end, g entry")
            self.says("looked", "5")
        self.says("back", "done")
        self.says("back", "refused badquestion")
        self.says("looked", "5")
        self.says("program", " ; ".join(TEXT.split("\n")))

    def test_desks_are_each_for_themselves(self):
        other = Desk(TEXT)
        self.says("put 2 fn g number ; give 0", "done")
        self.assertEqual(other.say("looked"), "3")
        self.assertEqual(other.say("back"), "refused badquestion")


class Refused(Base):
    def test_inputs(self):
        for line in ("run", "run 1", "run [1]", "run 1 [] 2", "run [] 1", "run 10 []", "run -10 []", "run 1 [10]",
                     "run 1 [1,2,3,4,5,6]", "run 0 []",
                     "run -1 []", "run 1 1", "run [] []", "run 1 [1,2,-10]", "run " + "9" * 300 + " []", "run 1 [-" + "9" * 300 + "]",
                     "run " + "9" * 5000 + " []", "run" + " 1" * 1000):
            self.says(line, "refused badinput")

    def test_sayings(self):
        for line in ("break main entry n n 0 4", "break main entry 0 0 -1 4", "break main entry n a 0 4",
                     "break main entry out 0 0 4",
                     "break main entry 0 #out 0 4", "break main end #out 0 0 4", "break f end n 0 0 4",
                     "break f entry #a 0 0 4", "break main end r 0 0 4"):
            self.says(line, "refused badsaying")

    def test_texts(self):
        for text, row in (("", 0), ("fn main number", 1), ("fn main number\ngive x", 1), ("give 0", 0)):
            with self.assertRaises(BadText) as told:
                Desk(text)
            self.assertEqual(told.exception.row, row)
        for thing in anything():
            if type(thing) is not str:
                with self.assertRaises(BadText) as told:
                    Desk(thing)
                self.assertEqual(told.exception.row, -1)


class NoLine(Base):
    def test_of_anything(self):
        self.no_line(*anything(), Text("open"), b"open", ["open"], ("open",), None)

    def test_line_ends(self):
        self.no_line("\n", "open\n", "\nopen", "stands\nmain end", "run 1 [5]\n", "run 1\n[5]", "put 2 fn g number\ngive 0")

    def test_other_words(self):
        self.no_line("", "x", "Open", "OPEN", "opens", "open.", "stands", "stands main", "stands main end x", "needs",
                     "needs main", "needs main 0 0",
                     "open main", "dead 0", "rounds 1", "try", "try 1 2", "break", "break f", "break f end a out 0",
                     "break f end a out 0 1 1",
                     "drop 1", "back 1", "gone f", "looked 1", "program x", "none", "nothing", "standing main end", "fn main number")

    def test_blanks(self):
        self.no_line(" ", "  ", " open", "open ", "stands  main end", "stands main  end", "stands main end ",
                     " stands main end", "run ", "run  1 [5]",
                     "run 1  [5]", "run 1 [5] ", "run 1 [5, 6]", "run 1 [ 5]", "try  1", "needs main  0",
                     "break f end  a out 0 1", "standsmain end",
                     "drop ", "back ", "gone ", "looked ", "program ", "rounds ", "dead ", "open\t", "\topen")

    def test_functions_sides_and_nodes(self):
        self.no_line("stands g end", "stands main End", "stands main", "stands main out", "stands 0 end", "stands Main end",
                     "stands entry main",
                     "needs g 0", "needs main 6", "needs f 2", "needs main -1", "needs main 00", "needs main 01",
                     "needs main x", "needs main +1",
                     "needs main 1.", "needs main " + "9" * 300, "needs 0 0", "needs main -0")
        for n in range(6):
            self.assertNotEqual(self.desk.say(f"needs main {n}"), "no line")

    def test_weights(self):
        self.no_line("try 5", "try -1", "try 00", "try 01", "try x", "try -0", "try 10", "try +1", "try " + "1" * 300,
                     "break f end a out 0 5",
                     "break f end a out 0 -1", "break f end a out 0 x", "break f end a out 0 00")
        for weight in range(5):
            self.assertNotEqual(self.desk.say(f"try {weight}"), "no line")

    def test_terms_and_numbers_of_sayings(self):
        for bad in ("A", "toolong", "if", "##a", "#", "a#", "#out#", "1", "00", "-1", "a+1", "#if", "given", "[]", "a,b"):
            self.no_line(f"break f end {bad} a 0 1", f"break f end a {bad} 0 1")
        for bad in ("x", "00", "-0", "+1", "01", "-01", "1-", "--1", "-", "1.0", "1_0", "0x1", "1e3", "[1]", "#a", "a"):
            self.no_line(f"break f end a out {bad} 1")
        self.no_line("break g end a out 0 1", "break f side a out 0 1", "break f END a out 0 1")
        # What isn't written so comes ahead of what is no saying.
        self.no_line("break f end a a 0 5", "break f end a a 00 4", "break f end A A 0 4", "break g end a a 0 4")

    def test_inputs(self):
        for bad in ("x", "00", "-0", "+1", "01", "-01", "1-", "-", "1.0", "[", "]", "][", "[1", "1]", "[1,]", "[,1]", "[,]",
                    "[1,,2]", "[[1]]", "[x]", "[00]",
                    "[-0]", "[+1]", "[1;2]", "(1)", "()", "nothing", "[1][2]", "1,2", ",", "1_0", "[1_0]"):
            self.no_line("run " + bad, "run 1 " + bad, "run " + bad + " []", "run 1 [] " + bad)

    def test_it_changes_nothing(self):
        for line in anything() + ["", "x", "put 1 fn ; fn"]:
            self.no_line(line)
            self.says("looked", "3")
            self.says("gone", "main end, f end, f entry")


class Many(Base):
    """What a desk tells, against what the functions tell that it stands for."""

    def sayings(self, sayings):
        return ", ".join(" ".join((one or "0", other or "0", str(most))) for one, other, most in sayings) or "none"

    def names(self, made, pairs):
        return ", ".join(f"{made[1][f][0]} {what}" for f, what in pairs) or "none"

    def check(self, made, chance):
        judged = standing(made)
        self.says("open", self.names(made, open_nodes(made)))
        self.says("dead", self.names(made, dead_nodes(made)))
        self.says("rounds", ", ".join(str(len(gone)) for gone in rounds_of(made, candidates(made))) or "none")
        self.says("program", program_text(made).replace("\n", " ; "))
        for f, sides in enumerate(judged):
            for side, sayings in zip(("entry", "end"), sides):
                self.says(f"stands {made[1][f][0]} {side}", self.sayings(sayings))
        for f, n in chance.sample(all_nodes(made), 3) if len(all_nodes(made)) > 3 else all_nodes(made):
            missing = unshown_at(made, judged, f, n)
            told = [self.sayings([need]) + (" open" if need in missing else " shown") for need in needed_at(made, judged, f, n)]
            self.says(f"needs {made[1][f][0]} {n}", ", ".join(told) or "none")
            self.assertEqual(len(nodes_of(made, f)) > n, True)
        self.check_runs(made, chance)

    def check_runs(self, made, chance):
        inputs = some_inputs(made, chance)
        if inputs is not None:
            self.says(("run " + inputs_text(inputs)) if inputs else "run", end_text(made, run(made, inputs, 300)))
        weight = chance.randint(0, 2)
        found = first_fault(made, weight, 300)
        self.says(f"try {weight}", "none" if found is None else f"{inputs_text(found[0])} : {end_text(made, found[1])}")
        f, side = chance.randrange(len(made[1])), chance.choice(("entry", "end"))
        terms = (entry_terms if side == "entry" else end_terms)(made, f)
        if len(terms) > 1:
            saying = (*chance.sample(terms, 2), chance.randint(-4, 4))
            inputs = first_break(made, f, side, saying, weight, 300)
            told = "none" if inputs is None else inputs_text(inputs)
            self.says(f"break {made[1][f][0]} {side} {self.sayings([saying])} {weight}", told)

    def test_programs_and_their_changes(self):
        chance = random.Random(95)
        changes = 0
        for seed in range(60):
            made = Maker(seed).program()
            self.desk = Desk(program_text(made))
            looked = len(things_of(made))
            self.check(made, chance)
            for k in range(3):
                change = change_of(made, seed * 50 + k, chance)
                if change is None:
                    continue
                gone = touched_by(made, change)
                made, looked = changed(made, change), looked + len(gone)
                line = "drop"
                if change[0] == "put":
                    rows = program_text(made).split("\n")
                    starts = [at for at, row in enumerate(rows) if row.startswith("fn ")] + [len(rows)]
                    line = f"put {change[1]} " + " ; ".join(rows[starts[change[1]]:starts[change[1] + 1]])
                self.says(line, "done")
                self.says("gone", self.names(made, gone))
                self.says("looked", str(looked))
                self.check(made, chance)
                changes += 1
        self.assertGreater(changes, 50)

    def test_in_a_short_time(self):
        heads = [f"fn {name} number x:number y:row" for name in ("main", "fa", "fb", "fc")]
        body = ["let c" + letter + " call f" + "abc"[k % 3] + " x" + ("", "+1", "-1", "+4")[k % 4] + " y" for k,
                letter in enumerate("abcdefghijk")]
        text = "\n".join(row for head in heads for row in [head] + body + ["give ck"])
        start = time.process_time()
        self.desk = Desk(text)
        for line in ("open", "dead", "rounds", "needs main 11", "stands fa end", "try 4", "break fa end 0 out 1 4", "run 1 [1]"):
            self.assertNotEqual(self.desk.say(line), "no line")
        self.says("put 3 " + " ; ".join([heads[3], "give x"]), "done")
        self.says("back", "done")
        self.assertLess(time.process_time() - start, SHORT)


if __name__ == "__main__":
    unittest.main()
