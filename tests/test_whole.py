"""Point 1 and the interface: what holds of all that the document names."""

import copy
import importlib
import inspect
import unittest

from strikehall.errors import BadProgram, StrikeError
from strikehall.keeper import Keeper
from strikehall.papers import paper_of
from strikehall.strikes import standing
from strikehall.texts import read_program
from strikehall.ways import candidates
from tests.samples import anything

INTERFACE = {
    "programs": {"is_name": "thing", "is_program": "thing", "need_program": "thing", "nodes_of": "program f",
                 "ahead_of": "program f n", "kinds_of": "program f"},
    "texts": {"atom_text": "atom", "program_text": "program", "read_program": "text"},
    "runs": {"need_inputs": "program inputs", "run": "program inputs limit", "steps_of": "program inputs limit",
             "calls_of": "program inputs limit"},
    "sayings": {"is_term": "thing", "is_saying": "thing", "need_facts": "thing", "fits": "facts",
                "least_between": "facts one other", "follows": "facts saying", "numbers_for": "facts",
                "chain_for": "facts saying", "ring_for": "facts"},
    "ways": {"pool_of": "program", "entry_terms": "program f", "end_terms": "program f", "candidates": "program",
             "need_judged": "program thing", "facts_at": "program judged f n", "needed_at": "program judged f n",
             "put_in": "sayings places"},
    "strikes": {"struck_at": "program judged f n", "all_struck": "program judged", "holds_by": "program judged",
                "lies_within": "program one other", "rounds_of": "program judged", "left_of": "program judged",
                "standing": "program"},
    "shown": {"unshown_at": "program judged f n", "open_nodes": "program", "dead_nodes": "program", "is_let_by": "program"},
    "papers": {"scope_at": "program f n", "fits_at": "program judged f n numbers",
               "numbers_against": "program judged f n k", "paper_of": "program"},
    "checking": {"check_paper": "program paper"},
    "faults": {"came_to": "program inputs limit", "is_broken": "program inputs limit f side saying",
               "end_text": "program end", "inputs_text": "inputs"},
    "trying": {"weight_of": "inputs", "inputs_tried": "program weight", "first_fault": "program weight limit",
               "all_faults": "program weight limit", "first_break": "program f side saying weight limit"},
    "anew": {"things_of": "program", "hangs_straight": "program f side", "hangs_on": "program f side",
             "changed": "program change", "touched_by": "program change", "standing_anew": "program judged change"},
}
CLASSES = {
    ("errors", "StrikeError"): {}, ("errors", "BadProgram"): {"__init__": "self place"},
    ("errors", "BadText"): {"__init__": "self row"}, ("errors", "BadPaper"): {"__init__": "self place"},
    ("errors", "BadInput"): {}, ("errors", "BadSaying"): {}, ("errors", "BadJudged"): {}, ("errors", "BadQuestion"): {},
    ("keeper", "Keeper"): {"__init__": "self program", "program": "self", "standing": "self", "change": "self change",
                           "back": "self", "gone": "self", "looked": "self"},
    ("desk", "Desk"): {"__init__": "self text", "say": "self line"},
}
TEXT = """given 0 n 0
fn main number n:number r:row
let x call f n r
must x n
give x
fn f number a:number s:row
let u part s a
give u"""
MADE = read_program(TEXT)
INPUTS = (1, (0, 1))
JUDGED = candidates(MADE)
PAPER = paper_of(MADE)
PUT = ("put", 1, MADE[1][1])
FACTS = (("a", "b", 1), ("b", "", 1))
UNFIT = FACTS + (("", "a", -3),)
# Of each function with good arguments, by files and names.
CALLS = {
    "programs": {"is_name": ("a",), "is_program": (MADE,), "need_program": (MADE,), "nodes_of": (MADE, 1), "ahead_of": (MADE, 1, 1),
                 "kinds_of": (MADE, 1)},
    "texts": {"atom_text": (("at", "a", 1),), "program_text": (MADE,), "read_program": (TEXT,)},
    "runs": {"need_inputs": (MADE, INPUTS), "run": (MADE, INPUTS, 1), "steps_of": (MADE, INPUTS, 1), "calls_of": (MADE, INPUTS, 1)},
    "sayings": {"is_term": ("a",), "is_saying": (("a", "b", 1),), "need_facts": (FACTS,), "fits": (FACTS,),
                "least_between": (FACTS, "a", ""), "follows": (FACTS, ("a", "", 1)), "numbers_for": (FACTS,),
                "chain_for": (FACTS, ("a", "", 2)), "ring_for": (UNFIT,)},
    "ways": {"pool_of": (MADE,), "entry_terms": (MADE, 1), "end_terms": (MADE, 1), "candidates": (MADE,),
             "need_judged": (MADE, JUDGED),
             "facts_at": (MADE, JUDGED, 1, 1), "needed_at": (MADE, JUDGED, 1, 1), "put_in": (FACTS, {"a": ("c", 1)})},
    "strikes": {"struck_at": (MADE, JUDGED, 1, 1), "all_struck": (MADE, JUDGED), "holds_by": (MADE, JUDGED),
                "lies_within": (MADE, JUDGED, JUDGED), "rounds_of": (MADE, JUDGED), "left_of": (MADE, JUDGED), "standing": (MADE,)},
    "shown": {"unshown_at": (MADE, JUDGED, 1, 1), "open_nodes": (MADE,), "dead_nodes": (MADE,), "is_let_by": (MADE,)},
    "papers": {"scope_at": (MADE, 1, 1), "fits_at": (MADE, JUDGED, 1, 1, (("#s", 1), ("a", 0), ("u", 1))),
               "numbers_against": (MADE, standing(MADE), 1, 0, 1), "paper_of": (MADE,)},
    "checking": {"check_paper": (MADE, PAPER)},
    "faults": {"came_to": (MADE, INPUTS, 1), "is_broken": (MADE, INPUTS, 1, 1, "entry", ("a", "", 1)),
               "end_text": (MADE, ("give", 1)),
               "inputs_text": (INPUTS,)},
    "trying": {"weight_of": (INPUTS,), "inputs_tried": (MADE, 1), "first_fault": (MADE, 1, 1), "all_faults": (MADE, 1, 1),
               "first_break": (MADE, 1, "entry", ("a", "", 1), 1, 1)},
    "anew": {"things_of": (MADE,), "hangs_straight": (MADE, 1, "end"), "hangs_on": (MADE, 1, "end"), "changed": (MADE, PUT),
             "touched_by": (MADE, PUT), "standing_anew": (MADE, standing(MADE), PUT)},
}
# What is asked of anything, or handed in as it should be: a truth in it is no number, but nothing refuses it.
UNREFUSED = ("is_name", "is_program", "is_term", "is_saying", "atom_text", "put_in", "end_text", "inputs_text", "weight_of")


def function_of(file, name):
    return getattr(importlib.import_module("strikehall." + file), name)


def each_call():
    for file, calls in CALLS.items():
        for name, arguments in calls.items():
            yield function_of(file, name), arguments


def with_truths(thing):
    """The thing once for each 0 or 1 in it, with a truth in its place."""
    if type(thing) is int and thing in (0, 1):
        yield bool(thing)
    if type(thing) is tuple:
        for k, part in enumerate(thing):
            for other in with_truths(part):
                yield thing[:k] + (other,) + thing[k + 1:]


class Names(unittest.TestCase):
    def test_functions_stand_in_their_files(self):
        for file, functions in INTERFACE.items():
            for name, arguments in functions.items():
                found = function_of(file, name)
                self.assertEqual(found.__module__, "strikehall." + file)
                self.assertEqual(list(inspect.signature(found).parameters), arguments.split(" "))

    def test_classes_have_their_methods_themselves(self):
        for (file, name), methods in CLASSES.items():
            found = function_of(file, name)
            self.assertEqual(found.__module__, "strikehall." + file)
            for method, arguments in methods.items():
                self.assertEqual(list(inspect.signature(vars(found)[method]).parameters), arguments.split(" "))

    def test_each_of_them_is_called_here(self):
        self.assertEqual({file: set(calls) for file, calls in CALLS.items()}, {file: set(names) for file, names in INTERFACE.items()})

    def test_all_refusals_are_told_of_one_class(self):
        for (file, name) in CLASSES:
            if file == "errors" and name != "StrikeError":
                self.assertEqual(function_of(file, name).__bases__, (StrikeError,))


class Told(unittest.TestCase):
    def test_alike_each_time_and_nothing_is_changed(self):
        for call, arguments in each_call():
            kept = copy.deepcopy(arguments)
            told = call(*arguments)
            again = copy.deepcopy(told)
            self.assertEqual(call(*kept), again, call.__name__)
            self.assertEqual(arguments, kept, call.__name__)

    def test_lists_and_dicts_are_new_ones(self):
        lists = set()
        for call, arguments in each_call():
            told = call(*arguments)
            if type(told) in (list, dict):
                kept = copy.deepcopy(told)
                told.clear()
                self.assertEqual(call(*arguments), kept)
                lists.add(call.__name__)
            else:
                # All else can't be changed: it is of numbers, texts, truths and tuples of these.
                hash(told)
        self.assertEqual(lists, {"nodes_of", "kinds_of", "calls_of", "numbers_for", "chain_for", "ring_for", "rounds_of",
                                 "open_nodes",
                                 "dead_nodes", "came_to", "inputs_tried", "all_faults"})

    def test_what_a_keeper_tells_can_not_be_changed(self):
        keeper = Keeper(MADE)
        keeper.change(PUT)
        for told in (keeper.program(), keeper.standing(), keeper.gone(), keeper.looked()):
            hash(told)


class Refused(unittest.TestCase):
    def test_programs_ahead_of_all_else(self):
        for call, arguments in each_call():
            if list(inspect.signature(call).parameters)[0] == "program":
                for thing in anything() + [MADE[1], (MADE[0], MADE[1][:1])]:
                    with self.assertRaises(BadProgram):
                        call(thing, *[None] * (len(arguments) - 1))

    def test_truths_are_no_numbers_right_behind_numbers(self):
        many = 0
        for call, arguments in each_call():
            if call.__name__ not in UNREFUSED:
                for other in with_truths(arguments):
                    call(*arguments)
                    with self.assertRaises(StrikeError, msg=(call.__name__, other)):
                        call(*other)
                    many += 1
        self.assertGreater(many, 500)

    def test_truths_in_what_is_asked_of_anything(self):
        for call, arguments in each_call():
            if call.__name__ in ("is_program", "is_saying"):
                self.assertIs(call(*arguments), True)
                for other in with_truths(arguments):
                    self.assertIs(call(*other), False)


if __name__ == "__main__":
    unittest.main()
