"""[18], [21]: lines of states, and states of lines."""

import unittest

from saidanew.books import Book
from saidanew.errors import AtEnd, NoLine, NoText, NoTree
from saidanew.papers import paper_holds, why_hidden
from saidanew.programs import Program
from saidanew.reading import is_turned, reading, turned
from saidanew.steps import State, line_of, settled, state_of, step
from saidanew.texts import read_tree
from saidanew.trees import count
from tests import samples
from tests.samples import FOR, OR

BOOK = Book(OR + "\n" + FOR + "\nword thunk\nrule a => (fun () a)\nword w\nrule !x a b => (do *(for x a (or b x)))\n"
            "fun one () => 1")
PROGRAM = Program(BOOK, "fun pair (x y) => (list y x)\nfun sum (l) => (if (none l) 0 (plus (first l) (call sum (rest l))))\nrun 1")


def read(text):
    return reading(BOOK, read_tree(text, BOOK, PROGRAM.functions))


def run_of(program, state, most=400):
    """The states of a run up to its end, or the first ones."""
    states = [state]
    for _ in range(most):
        try:
            state = step(program, state)[0]
        except AtEnd:
            break
        if count(state.term) > 1500:
            break
        states.append(state)
    return states


class Shown(unittest.TestCase):

    def test_the_document_s_run(self):
        book = Book(OR)
        program = Program(book, "run (or (less 2 1) (none []) true)")
        self.assertEqual([line_of(program, state) for state in run_of(program, program.start)], [
            "(or (less 2 1) (none []) true)", "(or false (none []) true)", None, "(or (none []) true)", "(or true true)", None, "true"])

    def test_lines(self):
        for text in ("1", "(or 1 2)", "(for a 1 (plus a 1))", "[1 (thunk 2)]", "(call pair 1 one)", "(fun (a) (w b a (list a b)))"):
            self.assertEqual(line_of(PROGRAM, State(read(text))), text)
            self.assertEqual(line_of(program=PROGRAM, state=State(read(text))), text)
            self.assertEqual(state_of(PROGRAM, text), State(read(text)))
            self.assertEqual(state_of(text=text, program=PROGRAM), State(read(text)))

    def test_names_are_no_functions_of_book_or_program(self):
        program = Program(Book("fun a () => 1"), "fun b () => 1\nfun d (x) => x\nrun 1")
        self.assertEqual(line_of(program, state_of(program, "(fun (x y z) (list x y z a b d))")), "(fun (c e f) (list c e f a b d))")

    def test_cells(self):
        state = State(read("(list #1 #2)"), (read("(thunk #2)"), read("3")))
        self.assertEqual(line_of(PROGRAM, state), "(list #1 #2) where #1 = (thunk #2) , #2 = 3")
        state = State(read("#1"), (read("[]"),))
        self.assertEqual(line_of(PROGRAM, state), "#1 where #1 = []")
        state = State(read("(let x #1 x)"), (read("(fun (x y) (for z x y))"),))
        self.assertEqual(line_of(PROGRAM, state), "(let a #1 a) where #1 = (fun (a b) (for c a b))")

    def test_hidden_by_the_term_or_by_a_value(self):
        part = read("(or 1 2)")[2][1][2][2]
        self.assertIsNone(line_of(PROGRAM, State(("do", (("or", 1, (0,)),), (part,)))))
        fun = ("fun", (("w", 0, (1,)),), (0, ("int", (), (1,))))
        self.assertIsNone(line_of(PROGRAM, State(fun)))
        self.assertIsNone(line_of(PROGRAM, State(("ref", (), (1,)), (fun,))))
        self.assertIsNone(line_of(PROGRAM, State(read("(list #1 #2)"), (read("1"), ("made", (), (fun,))))))
        self.assertEqual(line_of(PROGRAM, State(read("#1"), (read("(thunk 1)"),))), "#1 where #1 = (thunk 1)")


class Read(unittest.TestCase):

    def same(self, text, line):
        state = state_of(PROGRAM, text)
        with self.subTest(text):
            self.assertEqual(line_of(PROGRAM, state), line)
            self.assertEqual(state_of(PROGRAM, line), state)
            self.assertEqual(state, settled(state.term, state.cells))

    def test_cells_in_any_order_and_with_any_numbers(self):
        self.same("(list #7 #2) where #2 = 'b , #7 = 'a", "(list #1 #2) where #1 = 'a , #2 = 'b")
        self.same("(list #7 #2) where #7 = 'a , #2 = #7", "(list #1 #2) where #1 = 'a , #2 = #1")
        self.same("#999999999999 where #999999999999 = [#5 #5] , #5 = #999999999999", "#1 where #1 = [#2 #2] , #2 = #1")
        self.same("[#3 #1 #2] where #1 = #4 , #2 = 2 , #3 = 3 , #4 = 4", "[#1 #2 #3] where #1 = 3 , #2 = #4 , #3 = 2 , #4 = 4")

    def test_cells_that_are_not_led_to(self):
        self.same("1 where #1 = 2", "1")
        self.same("#2 where #1 = #2 , #2 = 3 , #3 = #1", "#1 where #1 = 3")
        self.same("1 where #5 = #5", "1")

    def test_values_that_are_uses_or_funs(self):
        self.same("#1 where #1 = (thunk (or 1 2))", "#1 where #1 = (thunk (or 1 2))")
        self.same("#1 where #1 = (fun (x) (w y x y))", "#1 where #1 = (fun (a) (w b a b))")
        self.same("#1 where #1 = [one pair (thunk #1)]", "#1 where #1 = [one pair (thunk #1)]")
        self.same("#1 where #1 = true", "#1 where #1 = true")

    def test_spaces_and_line_feeds(self):
        self.same(" (list #1(do #2))\nwhere\n#1   =\n[] ,\n\n#2 =(fun()3) ", "(list #1 (do #2)) where #1 = [] , #2 = (fun () 3)")

    def test_the_cells_of_a_line_need_not_be_in_the_term(self):
        self.same("(thunk #1) where #1 = [#2] , #2 = 2", "(thunk #1) where #1 = [#2] , #2 = 2")


class Refused(unittest.TestCase):

    def refused(self, error, *texts, **attributes):
        for text in texts:
            with self.subTest(text):
                with self.assertRaises(error) as caught:
                    state_of(PROGRAM, text)
                self.assertIs(type(caught.exception), error)
                for name, value in attributes.items():
                    self.assertEqual(getattr(caught.exception, name), value)

    def test_forms(self):
        self.refused(NoLine, "1 where", "where", "1 = 2", "1 , 2", "=", ",", "1 where 1", "1 where #1", "1 where #1 =  2 ,",
                     "1 where #1 = 2 #2 = 3", "1 where #1 = 2 , #2", "1 where #1 = 2 , 3", "1 where = 2", "1 where #1 2",
                     "1 where , #1 = 2", "1 where #1 = 2 , , #2 = 3", "1 where #1 = 2 where #2 = 3", "1 where #1 = 2 = 3", "1 where where #1 = 2",
                     "1 , #1 = 2", "#1 = 2", "1 where x = 2", "1 where 1 = 2", "1 where #0 = 2", "1 where #01 = 2", "1 where # = 2",
                     "1 where #1 #2 = 2", "1 where (#1) = 2", "1 where (#1 = 2)", "1 where [#1] = 2", "1 where 'a = 2", "1 = 2 where #1 = 2",
                     "1 , 2 where #1 = 2", "1 where #1 , #2 = 3", "1 where #-1 = 2", "where where", "1 where #1 = 1 where")

    def test_a_closing_bracket_too_many_counts_for_nothing(self):
        self.refused(NoText, "1 ) where #1 = 2", "1 ] ) where #1 = 2", "1 )", at=1)
        self.refused(NoText, ") where #1 = 2", at=0)
        self.refused(NoLine, "1 ) where #1", "1 ) = 2", ") ) , 1", "1 ) ( ) where 2")
        self.refused(NoText, "1 where #1 = 2 )", "1 where #1 = 2 ) , #2 = 3", at=1)
        self.refused(NoText, "1 ) ( where = ,", at=1)

    def test_signs_inside_of_brackets_are_not_those_of_the_line(self):
        self.refused(NoText, "(1 = 2)", "(= 1)", "(where #1 = 2", at=1)
        self.refused(NoText, "(do 1 where #1 = 2", "(do 1 , 2)", "(do 1 = 2)", at=3)
        self.refused(NoText, "(do (do 1) = 2)", "(do (do 1) where #1 = 2)", at=6)
        self.refused(NoText, "[1 [2] [] = 3]", "[[] [1 2] , 3]", at=7)
        self.refused(NoText, "[1 where #1 = 2]", "1 where #1 = (do , 2)", "[1 , 2]", at=2)

    def test_no_text_in_the_term_and_in_each_value(self):
        self.refused(NoText, "", " ", "\n", "where #1 = 2", "where #1 = ", at=0)
        self.refused(NoText, "1 where #1 =", "1 where #1 = 2 , #2 =", "1 where #1 = , #2 = 3", "1 where #1 = let", at=0)
        self.refused(NoText, "1 2", "1 2 where #1 = 3", "(1)", "#1 where #1 = 3 4", "#1 where #2 = 3 , #1 = 4 5", at=1)
        self.refused(NoText, "(do", "(let 1 2 3)", "#1 where #1 = (do", "#1 where #2 = 1 , #1 = (fun", at=2)

    def test_no_tree_in_the_term_and_in_each_value(self):
        self.refused(NoTree, "x", "(no 1)", "#1 where #1 = x", "#1 where #2 = 1 , #1 = (or)", "1 where #1 = (for 1 2 3)", path=())
        self.refused(NoTree, "(do x)", "[(do 1)]", "#1 where #1 = [x]", "#1 where #2 = 1 , #1 = [(list)]", path=(0,))
        # What is bound in the term is not bound in a value.
        self.refused(NoTree, "(let x 1 x) where #1 = x", path=())

    def test_which_of_several_comes_first(self):
        # The form of the line, then the texts in order, then the cells.
        self.refused(NoLine, "( where 1 = ) = 2", "x = 2", "(no) where", "1 ) where x = y", "(do 1 ) 2 where #1")
        self.refused(NoText, "(do where #1 = x", at=2)
        self.refused(NoText, "1 2 where #1 = x", at=1)
        self.refused(NoTree, "(do x) where #1 = (do", "(do x) where #1 = (do 1) , #1 = 2", "(do x) where #3 =", path=(0,))
        self.refused(NoText, "#5 where #1 = (do , #2 = x", "1 where #1 = 1 , #1 = (do", at=2)
        self.refused(NoTree, "#5 where #1 = x , #2 = (do", "1 where #1 = (do 1) , #1 = x", path=())
        self.refused(NoText, "#5 where #5 = (do 1) , #2 = 1 1", at=1)

    def test_cells_without_a_value(self):
        self.refused(NoLine, "#1", "#1 where #2 = 1", "[#1]", "(fun () #1)", "(or 1 #1)", "(for x #1 x)", "1 where #1 = #2",
                     "1 where #1 = [[#1 #2]]", "1 where #1 = (thunk #3)", "(list #1 #2) where #1 = 1")

    def test_cells_with_two_values(self):
        self.refused(NoLine, "#1 where #1 = 1 , #1 = 1", "1 where #1 = 1 , #1 = 2", "#1 where #1 = 1 , #2 = 2 , #1 = 3")

    def test_values_that_are_none(self):
        self.refused(NoLine, "#1 where #1 = (do 1)", "1 where #1 = (list)", "#1 where #1 = (or (thunk 1))", "#1 where #1 = (for x 1 x)",
                     "#1 where #1 = (raise 'a)", "#1 where #1 = 1 , #2 = (call one)")


class Runs(unittest.TestCase):
    """[4]: a shown line, typed anew, gives the same state; and a hidden state has a paper."""

    def follow(self, program, state):
        shown = 0
        for state in run_of(program, state):
            line = line_of(program, state)
            trees = (state.term,) + state.cells
            papers = [why_hidden(program.book, tree) for tree in trees]
            self.assertEqual(line is None, any(papers))
            if line is not None:
                shown += 1
                self.assertEqual(state_of(program, line), state)
                self.assertEqual(state_of(program, line.replace(" ", "\n ")), state)
            for tree, paper in zip(trees, papers):
                self.assertEqual(paper is None, is_turned(turned(program.book, tree)))
                if paper:
                    self.assertTrue(paper_holds(program.book, tree, paper))
        return shown

    def test_a_run_with_cells_words_and_functions(self):
        program = Program(BOOK, """fun upto (n) => (if (less n 1) (list) (put n (call upto (minus n 1))))
            fun map (f l) => (if (none l) (list) (put (call f (first l)) (call map f (rest l))))
            fun any (f l) => (if (none l) false (or (call f (first l)) (call any f (rest l))))
            run (for c (cell 0) (seq (set c (call map (fun (x) (for y x (plus y 1))) (call upto 5)))
                (w d (get c) (call any (fun (x) (same x 9)) d))))""".replace("\n                ", " "))
        states = run_of(program, program.start)
        self.assertGreater(self.follow(program, program.start), 60)
        hidden = [state for state in states if line_of(program, state) is None]
        self.assertGreater(len(hidden), 3)

    def test_random_runs(self):
        for book in samples.books():
            program = Program(book, "fun ff (x) => (list x x)\nrun 1")
            for seed in range(25):
                maker = samples.Maker(book, 4000 + seed, program.functions)
                term = reading(book, maker.tree(3 + seed % 3, has_cells=seed % 3))
                cells = tuple(reading(book, maker.value(3, has_cells=seed % 3)) for _ in range(seed % 3))
                self.follow(program, settled(term, cells))

    def test_a_line_that_was_returned_may_nest_deeper_than_texts(self):
        program = Program(Book(OR), "fun down (n) => (if (less n 1) true (or (call down (minus n 1)) false))\nrun (call down 60)")
        deep = 0
        for state in run_of(program, program.start, 200):
            line = line_of(program, state)
            if line is not None:
                self.assertEqual(state_of(program, line), state)
                deep = max(deep, line.count("(or"))
        self.assertGreater(deep, 40)


if __name__ == "__main__":
    unittest.main()
