"""[33], [34]: the desk."""

import random
import unittest

from saidanew.books import Book
from saidanew.desk import Desk
from saidanew.errors import (
    NoBook, NoChange, NoKind, NoLine, NoPlace, NoRow, NoRun, NoText, NoTree, SaidError, TooMany,
)
from saidanew.kinds import kind_of_state
from saidanew.papers import paper_holds, why_hidden
from saidanew.programs import Program
from saidanew.reading import turned
from saidanew.steps import line_of, outcome, state_of, step
from saidanew.texts import show_tree
from saidanew.trees import subtree
from tests import programs
from tests.test_stepper import caught_at, marked, work_path

OR_ROW = "word or ; rule a => (do a) ; rule a ..r => (let t a (if t t *(or ..r)))"
FOR_ROW = "word for ; rule !x a b => (call (fun (x) b) a)"
TWICE_ROW = "word twice ; rule a => (list a a)"
FUN_ROW = "fun f (x) => (if (less x 1) 'done (call f (minus x 1)))"
RUN_ROWS = ("next", "step 1", "back 1", "over", "over 0", "why", "change 1", "undo", "said", "kind", "at")


def desk(*rows):
    found = Desk()
    for row in (OR_ROW, FOR_ROW, TWICE_ROW, FUN_ROW) + rows:
        found.say(row)
    return found


class Asserts(unittest.TestCase):

    def says(self, found, *pairs):
        for row, text in pairs:
            with self.subTest(row):
                self.assertEqual(found.say(row), text)

    def refused(self, found, error, *rows, **attributes):
        """Each of these rows is refused, and the desk is as it was."""
        for row in rows:
            with self.subTest(row):
                before = self.everything(found)
                with self.assertRaises(error) as caught:
                    found.say(row)
                self.assertIs(type(caught.exception), error)
                for name, value in attributes.items():
                    self.assertEqual(getattr(caught.exception, name), value)
                self.assertEqual(self.everything(found), before)

    def everything(self, found):
        """All that a desk tells, found without a change; taking changes back tells of those."""
        try:
            told = [found.say("book")]
            with found.trial():
                told.append([found.say(row) for row in ("at", "said", "kind", "why", "step 0")])
                while True:
                    at = int(found.say("at"))
                    told.append([found.say("back 5000")] + [found.say("step 1") for _ in range(40)] + [at])
                    found.say("undo")
        except (NoRun, NoChange) as error:
            return told + [type(error)]


class Books(Asserts):

    def test_the_document_s_example(self):
        found = Desk()
        self.says(found, (OR_ROW, "kept"), ("run (or false true)", "(or false true)"), ("next", "(or true)"), ("at", "2"))

    def test_rows_of_a_book(self):
        found = Desk()
        self.says(found, ("book", ""), (OR_ROW, "kept"), ("book", OR_ROW), (FUN_ROW, "kept"), ("book", OR_ROW + " ; " + FUN_ROW),
                  ("word   all  ;  rule   ..r   =>   ( list   ..r )  ", "kept"),
                  ("book", OR_ROW + " ; " + FUN_ROW + " ; word all ; rule ..r => (list ..r)"),
                  ("fun g () =>(call f 3)", "kept"), ("word k ; rule a => (do a)", "kept"), ("book ", OR_ROW + " ; " + FUN_ROW
                   + " ; word all ; rule ..r => (list ..r) ; fun g () => (call f 3) ; word k ; rule a => (do a)"))
        self.assertEqual(found.say("run (list g (all (or 1)) (k 2))"), "(list g (all (or 1)) (k 2))")

    def test_rows_that_change_the_book_end_a_run(self):
        for row in ("word k ; rule a => (do a)", "fun k () => 1"):
            found = desk("run (or 1)")
            self.says(found, ("at", "0"), (row, "kept"))
            self.refused(found, NoRun, *RUN_ROWS)
            self.says(found, ("run 1", "1"), ("at", "0"))
            self.refused(found, NoChange, "undo")

    def test_refused_rows_of_a_book(self):
        found = desk("run (or (or 1))", "step 1")
        # So many rows are there.
        many = found.say("book").count(" ; ") + 1
        for row, at, why in (("word", many, "form"), ("word ", many, "form"), ("word k", many, "form"), ("word or ; rule a => (do a)", many, "twice"),
                             ("word K ; rule a => (do a)", many, "form"), ("word k x ; rule a => (do a)", many, "form"),
                             ("word k rule a => (do a)", many, "form"), ("word k ; rule a", many + 1, "form"), ("word k ; rule", many + 1, "form"),
                             ("word k ; rule a => (do a) ; rule b => c", many + 2, "root"), ("word k ; rule a => (do x)", many + 1, "unknown"),
                             ("word k ; rule a => (do (or))", many + 1, "count"), ("word ; rule a => (do a)", many, "form"),
                             ("word k ; rule a b => (do a)", many + 1, "place"), ("fun", many, "form"), ("fun ", many, "form"),
                             ("fun g", many, "form"), ("fun g () => x", many, "unknown"), ("fun f () => 1", many, "twice"),
                             ("fun g () => 1 ; fun h () => 1", many, "form"), ("fun g () => #1", many, "form"), ("fun g () => (nor 1)", many, "word"),
                             ("fun g () => 1 ;", many, "form"), ("word k ; rule a => (do a) rule b => (do b)", many + 1, "form")):
            self.refused(found, NoBook, row, row=at, why=why)
        self.says(found, ("at", "1"), ("step 0", "(or 1)"))

    def test_parts_that_do_not_begin_with_rule(self):
        found = desk("run (or (or 1))", "step 1")
        self.refused(found, NoRow, "word k ; a => (do a)", "word k ;", "word k ; rule a => (do a) ;",
                     "word k ; ; rule a => (do a)", "word k ; rules a => (do a)", "word k ; fun g () => 1", "word k ; word l ; rule a => (do a)",
                     "word ;", "word k ; rule a => (do a) ; (rule b => (do b))", "word ; ; rule a => (do a)", "word or ; x")
        # A `;` that is no token of its own is none of these.
        self.refused(found, NoBook, "word k; rule a => (do a)", "word k ;rule a => (do a)", "word k ;; rule a => (do a)")


class Runs(Asserts):

    def test_run(self):
        found = desk()
        self.says(found, ("run (or  false ( do 1))", "(or false (do 1))"), ("run (list #7 f) where #7 = 3", "(list #1 f) where #1 = 3"),
                  ("at", "0"), ("step 1", "[#1 f] where #1 = 3"), ("run 1 where #2 = 5", "1"), ("at", "0"), ("said", "nothing"))
        self.refused(found, NoText, "run", "run ", at=0)
        self.refused(found, NoText, "run (or", at=2)
        self.refused(found, NoText, "run 1 ; 2", at=1)
        self.refused(found, NoTree, "run (list 1 x)", path=(1,))
        self.refused(found, NoTree, "run (list g)", path=(0,))
        self.refused(found, NoLine, "run 1 where", "run #1", "run #1 where #1 = (do 1)", "run 1 , 2")
        self.says(found, ("at", "0"), ("step 0", "1"))

    def test_next_step_back(self):
        found = desk("run (or (less 2 1) (none []) true)")
        self.says(found, ("next", "(or false (none []) true)"), ("at", "1"), ("step 1", "hidden"), ("at", "2"), ("next", "(or (none []) true)"),
                  ("at", "3"), ("back 1", "hidden"), ("back 0", "hidden"), ("step 0", "hidden"), ("back 7", "(or (less 2 1) (none []) true)"),
                  ("at", "0"), ("step 5000", "true"), ("at", "6"), ("step 1", "true"), ("next", "none"), ("at", "6"), ("back 5000",
                                                                                                               "(or (less 2 1) (none []) true)"))

    def test_next_that_finds_none_stays(self):
        found = Desk()
        self.says(found, ("fun f (x) => (call f x)", "kept"), ("word keep ; rule a => (list (do a) (call f 1))", "kept"), ("run (keep (plus 1 1))", "(keep (plus 1 1))"),
                  ("next", "(keep 2)"), ("next", "none"), ("at", "1"), ("step 0", "(keep 2)"))
        self.refused(found, TooMany, "over", most=5000)

    def test_over(self):
        found = desk("run (list (or (or (or 3)) 1))")
        self.refused(found, NoPlace, "over", path=())
        self.refused(found, NoPlace, "over 1", path=(1,))
        self.refused(found, NoPlace, "over 0 2 3000", path=(0, 2, 3000))
        self.says(found, ("over 0 2", "(list (or 3 1))"), ("at", "2"), ("back 5", "(list (or (or (or 3)) 1))"), ("over   0 2  2 ", "(list (or (or 3) 1))"),
                  ("at", "1"), ("over 0", "(raise 'kind)"), ("at", "5"))
        self.refused(found, NoPlace, "over 0", "over")
        found.say("run (twice (or 1))")
        self.says(found, ("over 2", "hidden"), ("at", "1"))
        self.refused(found, NoPlace, "over 2", "over")

    def test_why(self):
        found = desk("run (or false (or 1))")
        self.says(found, ("why", "shown"), ("step 1", "hidden"), ("why", "lost or"), ("step 1", "(or (or 1))"), ("why", "shown"))
        # Of the term and the cells the first hidden tree is told.
        found.say("run (let k (fun (x) (or x 2)) (list (cell (or false 5)) (cell (call k true))))")
        self.says(found, ("step 2", "hidden"), ("why", "lost or"))
        found.say("run (twice (plus 1 1))")
        self.says(found, ("step 1", "hidden"), ("why", "unlike twice"), ("step 1", "(twice 2)"))
        found = Desk()
        self.says(found, ("word mk ; rule a => (cell (fun () (seq (do a) (if true a 1))))", "kept"), ("run (let x 3 (mk x))", "(let a 3 (mk a))"), ("step 1", "(mk 3)"),
                  ("step 1", "hidden"), ("why", "lost mk"))

    def test_said(self):
        found = desk("run (list (say 1) (say (list 'a true)) (or (say -2)))")
        self.says(found, ("said", "nothing"), ("step 1", "(list 1 (say (list 'a true)) (or (say -2)))"), ("said", "1"))
        found.say("step 9")
        self.says(found, ("said", "1 , ['a true] , -2"), ("back 3", "(list 1 ['a true] (or (say -2)))"), ("said", "1 , ['a true]"))
        found.say("back 9")
        self.says(found, ("said", "nothing"))

    def test_kind(self):
        found = desk("run (cell (or 1))")
        self.says(found, ("kind", "cell num"), ("step 1", "(cell 1)"), ("kind", "cell num"), ("step 1", "#1 where #1 = 1"), ("kind", "cell num"))
        found.say("run (or false true)")
        self.says(found, ("step 1", "hidden"), ("kind", "flag"), ("change (or 1 2)", "(or 1 2)"), ("kind", "unfit"), ("undo", "undone"), ("kind", "flag"),
                  ("change (fun (x y) (list x))", "(fun (a b) (list a))"), ("kind", "fun (a b) (list a)"))

    def test_a_run_has_no_functions_of_its_own(self):
        found = Desk()
        self.says(found, (FUN_ROW, "kept"), ("run (call f 0)", "(call f 0)"))
        self.refused(found, NoTree, "change (call g 0)", "run g")


class Changes(Asserts):

    def test_change_and_undo(self):
        found = desk("run (list (say 1) (or (say 2)))", "step 1")
        self.says(found, ("change (or (say 5) 3)", "(or (say 5) 3)"), ("at", "2"), ("said", "1"), ("step 1", "(or 5 3)"), ("said", "1 , 5"), ("at", "3"),
                  ("back 1", "(or (say 5) 3)"), ("back 1", "(list 1 (or (say 2)))"), ("said", "1"), ("step 1", "(or (say 5) 3)"),
                  ("undo", "undone"), ("at", "1"), ("step 0", "(list 1 (or (say 2)))"), ("step 1", "(list 1 (or 2))"), ("said", "1 , 2"))
        self.refused(found, NoChange, "undo")

    def test_several_changes_taken_back_one_by_one(self):
        found = desk("run (or (or (or 1)))", "step 1")
        self.says(found, ("change 5", "5"), ("at", "2"), ("change (or 6)", "(or 6)"), ("at", "3"), ("step 1", "6"), ("back 3", "(or (or 1))"), ("at", "1"),
                  ("change (or (or 7))", "(or (or 7))"), ("at", "2"), ("step 2", "7"), ("at", "4"),
                  ("undo", "undone"), ("at", "1"), ("step 1", "5"), ("step 1", "(or 6)"), ("step 1", "6"), ("step 1", "6"), ("at", "4"),
                  ("undo", "undone"), ("at", "2"), ("step 0", "5"), ("step 1", "5"), ("at", "2"),
                  ("undo", "undone"), ("at", "1"), ("step 1", "(or 1)"), ("at", "2"))
        self.refused(found, NoChange, "undo")

    def test_behind_back(self):
        found = desk("run (list (or 1) (or 2) (or 3))", "step 3", "back 2")
        self.says(found, ("change (or 9)", "(or 9)"), ("step 9", "9"), ("at", "3"), ("undo", "undone"), ("at", "1"), ("step 9", "[1 2 3]"), ("at", "4"))

    def test_at_an_end_and_past_an_end(self):
        found = desk("run (or 1)", "step 1")
        self.says(found, ("change (or (or 2))", "(or (or 2))"), ("at", "2"), ("back 1", "1"), ("next", "(or (or 2))"), ("back 2", "(or 1)"), ("step 4", "2"),
                  ("at", "4"), ("change 'red", "'red"), ("back 5", "(or 1)"), ("step 3", "(or 2)"), ("step 5000", "'red"), ("at", "5"))
        found = desk("run (raise 'a)")
        self.says(found, ("step 1", "(raise 'a)"), ("change (or 2)", "(or 2)"), ("at", "1"), ("back 1", "(raise 'a)"), ("next", "(or 2)"))

    def test_at_a_hidden_state(self):
        found = desk("run (or false (or 1))", "step 1")
        self.says(found, ("why", "lost or"), ("change (or 3)", "(or 3)"), ("why", "shown"), ("back 1", "hidden"), ("next", "(or 3)"), ("undo", "undone"),
                  ("step 0", "hidden"), ("at", "1"), ("next", "(or (or 1))"))

    def test_cells_of_a_change(self):
        found = desk("run (list #1) where #1 = 5")
        self.says(found, ("change (set #3 #4) where #4 = 1 , #3 = #4 , #9 = 2", "(set #1 #2) where #1 = #2 , #2 = 1"), ("step 1", "#1 where #1 = 1"),
                  ("back 2", "(list #1) where #1 = 5"))

    def test_a_refused_change(self):
        found = desk("run (or (or 1))", "step 1")
        self.refused(found, NoText, "change", "change ", at=0)
        self.refused(found, NoText, "change (or", at=2)
        self.refused(found, NoTree, "change (or x)", path=(2,))
        self.refused(found, NoLine, "change 1 where", "change #1")

    def test_over_along_states_that_a_change_put_there(self):
        found = desk("run (list (or (or 1)) 2)")
        self.says(found, ("step 1", "(list (or 1) 2)"), ("change 5", "5"), ("back 2", "(list (or (or 1)) 2)"))
        # State 2 is an end.
        self.says(found, ("over 0", "5"), ("at", "2"))
        # A state that has no node at the place is passed; the next one has a value there.
        found = desk("run (list 1 (or (or 1)))")
        self.says(found, ("step 1", "(list 1 (or 1))"), ("change (do (or (or (or 2))))", "(do (or (or (or 2))))"), ("change (list 1 (do 2))", "(list 1 (do 2))"),
                  ("back 5", "(list 1 (or (or 1)))"), ("over 1", "(list 1 2)"), ("at", "4"))
        # A change is no step, so that nothing is caught on the way to it.
        found = desk("run (try (list (or (seq 1 (raise 'a)))) e (list (do e)))")
        self.says(found, ("step 1", "(try (list (or (raise 'a))) a (list (do a)))"),
                  ("change (try (list (or (raise 'b))) e (list (do e)))", "(try (list (or (raise 'b))) a (list (do a)))"),
                  ("back 3", "(try (list (or (seq 1 (raise 'a)))) a (list (do a)))"), ("over 0 0", "(list (do 'b))"), ("at", "3"), ("undo", "undone"),
                  ("back 5", "(try (list (or (seq 1 (raise 'a)))) a (list (do a)))"), ("over 0 0", "(list (do 'a))"), ("at", "2"))

    def test_over_along_several_changes(self):
        found = desk("run (try (list (or (seq 1 (raise 'a)))) e (list (do e)))", "step 1",
                     "change (try (list (or (raise 'b))) e (list (do e)))", "change (try (list (or (seq 1 (raise 'c)))) e (list (do e)))", "back 3")
        with found.trial():
            self.says(found, ("over 0 0", "(list (do 'c))"), ("at", "5"))
        self.says(found, ("step 3", "(try (list (or (seq 1 (raise 'c)))) a (list (do a)))"), ("undo", "undone"), ("back 2", "(try (list (or (seq 1 (raise 'a)))) a (list (do a)))"),
                  ("over 0 0", "(list (do 'b))"), ("at", "3"))

    def test_said_behind_changes(self):
        found = desk("run (list (say 1) (say 2) (say 3))", "step 3", "back 2")
        self.says(found, ("said", "1"), ("change (list 8 (say 9))", "(list 8 (say 9))"), ("said", "1"), ("at", "2"), ("step 1", "(list 8 9)"), ("said", "1 , 9"),
                  ("step 9", "[8 9]"), ("said", "1 , 9"), ("back 2", "(list 8 (say 9))"), ("said", "1"), ("back 1", "(list 1 (say 2) (say 3))"), ("said", "1"),
                  ("undo", "undone"), ("step 1", "(list 1 2 (say 3))"), ("said", "1 , 2"))

    def test_a_new_run_has_no_changes(self):
        found = desk("run 1", "change 2", "run 3")
        self.refused(found, NoChange, "undo")
        self.refused(found, NoRow, "undo 1")


class Refused(Asserts):

    def test_what_is_none_of_the_rows(self):
        for found in (Desk(), desk(), desk("run (or (or 1))", "step 1", "change (or 2)")):
            self.refused(found, NoRow, None, 5, True, b"book", ["book"], ("run 1",), {"a": 1}, "", " ", " book", "Book", "books", "rule a => (do a)",
                         "next\n", "\nnext", "run (or\n1)", "word k ; rule a =>\n(do a)", "over\n", "nothing", "undone", "run(or 1)", "word(", "at;", "; at",
                         "book x", "next 1", "next next", "why why", "undo 1", "said 1", "kind 1", "at 0", "book ;", "step", "back", "step ", "back  ",
                         "step x", "step -1", "step 5001", "step 01", "step 1 2", "step +1", "step 1.0", "step -0", "step 99999999999999999999", "step #1",
                         "step 'a", "step (1)", "step 1 ;", "back -1", "back 5001", "back 1 1", "back 00", "over -1", "over x", "over 0 5001", "over 0 01",
                         "over 0 ()", "over 1 ; 2", "step\t1", "change\tx", "overs", "step1")

    def test_no_run(self):
        for found in (Desk(), desk()):
            self.refused(found, NoRun, *RUN_ROWS, "over 5000 0", "change", "change (", "step 5000", "back  0 ", "next ", "undo  ")
            self.refused(found, NoRow, "step", "undo 1", "over x", "next 5")
        found = desk("run 1")
        found.say("fun k () => 1")
        self.refused(found, NoRun, *RUN_ROWS)

    def test_numbers_from_0_to_5000(self):
        found = desk("run (or 1)")
        self.says(found, ("step 0", "(or 1)"), ("step 5000", "1"), ("back 5000", "(or 1)"), ("back 0", "(or 1)"), ("step  1 ", "1"))
        self.refused(found, NoPlace, "over 5000", path=(5000,))

    def test_all_of_them_are_errors_of_the_package(self):
        for error in (NoRow, NoRun, NoChange):
            self.assertTrue(issubclass(error, SaidError))


class Trials(Asserts):

    def test_left_without_an_error(self):
        found = desk("run (or (or 1))")
        before = self.everything(found)
        with found.trial() as given:
            self.assertIs(given, found)
            given.say("step 1")
            given.say("change (or 5)")
            given.say("step 9")
            given.say("undo")
        self.assertEqual(self.everything(found), before)
        self.says(found, ("at", "0"), ("step 9", "1"), ("at", "2"))

    def test_left_by_any_error(self):
        class Other(Exception):
            pass

        found = desk("run (or (or 1))", "step 1", "change (or (or (or 2)))")
        before = self.everything(found)
        for error in (Other, KeyError, NoRow, KeyboardInterrupt, SystemExit, GeneratorExit):
            with self.assertRaises(error):
                with found.trial():
                    found.say("step 2")
                    found.say("undo")
                    found.say("word k ; rule a => (do a)")
                    found.say("run (k 1)")
                    raise error
            self.assertEqual(self.everything(found), before)
        for row, error in (("nothing", NoRow), ("run x", NoTree), ("word", NoBook), ("over 9", NoPlace)):
            with self.assertRaises(error):
                with found.trial() as given:
                    given.say("change (or 7)")
                    given.say(row)
            self.assertEqual(self.everything(found), before)

    def test_left_by_a_return_and_a_break(self):
        found = desk("run (or (or 1))")

        def left():
            with found.trial():
                found.say("step 1")
                return found.say("at")

        self.assertEqual(left(), "1")
        self.says(found, ("at", "0"))
        for _ in range(2):
            with found.trial():
                found.say("run 5")
                break
        self.says(found, ("step 0", "(or (or 1))"))

    def test_inside_of_one_another(self):
        found = desk("run (or (or 1))")
        with found.trial():
            found.say("step 1")
            with found.trial() as inner:
                inner.say("change (or 3)")
                with self.assertRaises(NoText):
                    with found.trial():
                        found.say("fun g () => 1")
                        found.say("run (")
                self.says(found, ("at", "2"), ("step 0", "(or 3)"))
                inner.say("step 1")
            self.says(found, ("at", "1"), ("step 0", "(or 1)"))
            self.refused(found, NoChange, "undo")
        self.says(found, ("at", "0"), ("step 0", "(or (or 1))"))

    def test_changes_runs_and_rows_of_the_book_inside(self):
        found = desk("run (or (or 1))", "step 1", "change (list (say 3) (say 4))", "step 1")
        before = self.everything(found)
        with found.trial():
            self.says(found, ("undo", "undone"), ("at", "1"), ("word k ; rule a => (do a)", "kept"), ("run (k 1)", "(k 1)"))
        self.assertEqual(self.everything(found), before)
        with found.trial():
            self.says(found, ("back 1", "(list (say 3) (say 4))"), ("change (list (say 5))", "(list (say 5))"), ("step 9", "[5]"), ("said", "5"))
        self.assertEqual(self.everything(found), before)
        self.says(found, ("said", "3"), ("step 2", "[3 4]"), ("said", "3 , 4"), ("undo", "undone"), ("at", "1"))
        empty = Desk()
        with empty.trial() as given:
            given.say(OR_ROW)
            given.say("run (or 1)")
        self.says(empty, ("book", ""))
        self.refused(empty, NoRun, "at")

    def test_what_it_is_ahead_of_the_block(self):
        found = desk("run (or (or 1))")
        trial = found.trial()
        found.say("step 1")
        with trial:
            found.say("step 1")
        self.says(found, ("at", "1"))
        with trial:
            found.say("back 1")
        self.says(found, ("at", "1"))


class Slow:
    """A desk by the words of the document, with lists that are copied each time."""

    def __init__(self, book):
        self.book, self.run = Book(book), None
        self.program = Program(self.book, "run 0")

    def say(self, row):
        word, _, rest = row.partition(" ")
        if word == "run":
            self.run = {"states": [state_of(self.program, rest)], "put": [False], "said": [None], "at": 0, "before": None}
            return self.line()
        return getattr(self, word)(*([rest] if word == "change" else [int(token) for token in rest.split()]))

    def line(self):
        return line_of(self.program, self.run["states"][self.run["at"]]) or "hidden"

    def has(self, number):
        run = self.run
        while len(run["states"]) <= number:
            if outcome(run["states"][-1]) is not None:
                return False
            state, said = step(self.program, run["states"][-1])
            run["states"].append(state), run["put"].append(False), run["said"].append(said)
        return True

    def next(self):
        for at in range(self.run["at"] + 1, self.run["at"] + 5001):
            if not self.has(at):
                break
            if line_of(self.program, self.run["states"][at]) is not None:
                self.run["at"] = at
                return self.line()
        return "none"

    def step(self, many):
        while many and self.has(self.run["at"] + 1):
            self.run["at"] += 1
            many -= 1
        return self.line()

    def back(self, many):
        self.run["at"] = max(0, self.run["at"] - many)
        return self.line()

    def over(self, *path):
        run, book = self.run, self.book
        state = run["states"][run["at"]]
        back = turned(book, state.term)
        try:
            node = subtree(back, path)
        except (IndexError, TypeError):
            raise NoPlace(path)
        if self.line() == "hidden" or outcome(state) or not isinstance(node, tuple) or node[0] != "use":
            raise NoPlace(path)
        work, _ = work_path(state.term)
        place = [place for place in marked(book, back, path)[1] if work[:len(place)] == place]
        if not place:
            raise NoPlace(path)
        place, = place
        for at in range(run["at"] + 1, run["at"] + 5001):
            self.has(at)
            if self.stops(at, place):
                run["at"] = at
                return self.line()
        raise TooMany(5000)

    def stops(self, at, place):
        state, before = self.run["states"][at], self.run["states"][at - 1]
        if outcome(state):
            return True
        try:
            node = subtree(state.term, place)
            if isinstance(node, tuple) and node[0] in ("int", "quote", "flag", "global", "made", "ref", "fun"):
                return True
        except (IndexError, TypeError):
            pass
        if self.run["put"][at] or outcome(before):
            return False
        work, node = work_path(before.term)
        caught = caught_at(before.term, work) if node[0] == "raise" else None
        return caught is not None and len(caught) < len(place) and place[:len(caught)] == caught

    def why(self):
        state = self.run["states"][self.run["at"]]
        for tree in (state.term,) + state.cells:
            back = turned(self.book, tree)
            papers = set()
            for kind in ("lost", "count"):
                for path, node in inked_nodes(back):
                    papers |= {(kind, node[1][-1][0])} if paper_holds(self.book, tree, (kind, path)) else set()
            paper = why_hidden(self.book, tree)
            if paper is not None:
                return {f"{kind} {word}" for kind, word in papers} | {f"{paper[0]} {subtree(back, paper[1])[1][-1][0]}"}
        return {"shown"}

    def change(self, line):
        run = self.run
        state = state_of(self.program, line)
        at = run["at"] + 1
        self.run = {"states": run["states"][:at] + [state], "put": run["put"][:at] + [True], "said": run["said"][:at] + [None], "at": at, "before": run}
        return self.line()

    def undo(self):
        if self.run["before"] is None:
            raise NoChange()
        self.run = self.run["before"]
        return "undone"

    def said(self):
        things = [thing for thing in self.run["said"][:self.run["at"] + 1] if thing is not None]
        return " , ".join(show_tree(thing, self.book) for thing in things) or "nothing"

    def kind(self):
        try:
            return kind_of_state(self.program, self.run["states"][self.run["at"]])
        except NoKind:
            return "unfit"

    def at(self):
        return str(self.run["at"])


def inked_nodes(tree, path=()):
    if tree[1]:
        yield path, tree
    for at, item in enumerate(tree[2]):
        if isinstance(item, tuple):
            yield from inked_nodes(item, path + (at,))


class BesideTheSlowOne(unittest.TestCase):

    def test_random_rows(self):
        # Functions that call one another cannot come row by row.
        book_rows = [row for row in programs.WORDS.split("\n") if not row.startswith(("fun even", "fun odd"))]
        known = Program(Book("\n".join(book_rows)), "run 1")
        lines = [line for line in programs.LINES if self.is_right(known, line)]
        self.assertGreater(len(lines), 30)
        told, refusals = set(), set()
        for seed in range(150):
            choose = random.Random(seed)
            fast, slow = Desk(), Slow("\n".join(book_rows))
            for row in book_rows:
                if row.startswith("fun "):
                    fast.say(row)
            for part in "\n".join(row for row in book_rows if not row.startswith("fun ")).removeprefix("word ").split("\nword "):
                fast.say("word " + part.replace("\n", " ; "))
            first = "run " + choose.choice(lines)
            self.assertEqual(fast.say(first), slow.say(first))
            for _ in range(40):
                row = choose.choice(["next"] * 3 + ["step %d" % choose.choice((0, 1, 1, 2, 5, 40))] * 4 + ["back %d" % choose.choice((1, 1, 2, 30))] * 2
                                    + ["over" + "".join(f" {choose.randrange(4)}" for _ in range(choose.randrange(4)))] * 4
                                    + ["change " + choose.choice(lines), "undo", "undo", "said", "kind", "at", "why"])
                wanted = self.said(slow, row)
                found = self.said(fast, row)
                if row == "why":
                    self.assertIn(found, wanted)
                else:
                    self.assertEqual(found, wanted, row)
                told.add((row.split(" ")[0], found if found in ("hidden", "none", "undone", "nothing", "unfit") else None))
                refusals.add(found[0] if isinstance(found, tuple) else row.split(" ")[0])
        self.assertTrue({NoPlace, NoChange, "over", "undo"} <= refusals, refusals)
        self.assertGreater(len(told), 14)

    def is_right(self, program, line):
        try:
            return state_of(program, line) is not None
        except SaidError:
            return False

    def said(self, found, row):
        try:
            return found.say(row)
        except SaidError as error:
            return (type(error), getattr(error, "path", None))


if __name__ == "__main__":
    unittest.main()
