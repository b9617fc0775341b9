"""[18]: programs."""

import itertools
import unittest

from saidanew.books import Book
from saidanew.errors import NoProgram, SaidError
from saidanew.programs import Program
from saidanew.reading import reading
from saidanew.steps import State, line_of
from saidanew.texts import read_tree
from tests.samples import FOR, OR

BOOK = Book(OR + "\n" + FOR + "\nfun one (x) => (or x 1)\nfun two () => (call one 2)")


def integer(number):
    return ("int", (), (number,))


def under(parameters, text, functions=()):
    """The reading of a body under its parameters."""
    tree = reading(BOOK, read_tree(f"(fun ({parameters}) {text})", BOOK, functions))
    return tree[2]


class Accepted(unittest.TestCase):

    def line(self, text, book=BOOK):
        program = Program(book, text)
        return line_of(program, program.start)

    def test_empty_rows_and_rows_of_spaces(self):
        program = Program(BOOK, "\n\n   \nfun f (x) => x\n \n  run  ( or  1 )\n\n  \n")
        self.assertEqual(program.functions, ("f",))
        self.assertEqual(line_of(program, program.start), "(or 1)")
        self.assertEqual(self.line("run(or 1)"), "(or 1)")

    def test_functions_ahead_of_those_that_they_call(self):
        text = "fun b (x) => (call a (call one x))\nfun a (x y) => (call b (call c y))\nfun c () => c\nrun (call a b c two)"
        program = Program(BOOK, text)
        self.assertEqual(program.functions, ("a", "b", "c"))
        names = ("a", "b", "c")
        self.assertEqual(program.body("a"), under("x y", "(call b (call c y))", names))
        self.assertEqual(program.body("b"), under("x", "(call a (call one x))", names))
        self.assertEqual(program.body("c"), (0, ("global", (), ("c",))))
        self.assertEqual(program.body("one"), under("x", "(or x 1)"))
        self.assertEqual(program.body("two"), (0, reading(BOOK, read_tree("(call one 2)", BOOK))))
        self.assertEqual(line_of(program, program.start), "(call a b c two)")

    def test_what_hides_what(self):
        program = Program(BOOK, "fun f (x x) => x\nfun g (f one) => (call f one)\nfun h (or for) => (or or for)\n"
                                "fun or (x) => (or x or)\nrun (let f 1 (list f one g or (or or)))")
        names = program.functions
        self.assertEqual(names, ("f", "g", "h", "or"))
        self.assertEqual(program.body("f"), (2, ("name", (), (0,))))
        self.assertEqual(program.body("g"), (2, ("call", (), (("name", (), (1,)), ("name", (), (0,))))))
        self.assertEqual(program.body("h"), under("p q", "(or p q)"))
        self.assertEqual(program.body("or"), under("x", "(or x or)", names))
        self.assertEqual(program.start.term, reading(BOOK, read_tree("(let k 1 (list k one g or (or or)))", BOOK, names)))

    def test_numbers_of_parameters(self):
        for many in range(5):
            names = " ".join("pqrs"[:many])
            self.assertEqual(Program(BOOK, f"fun f ({names}) => 1\nrun 1").body("f"), (many, integer(1)))

    def test_values_in_bodies(self):
        program = Program(BOOK, "fun f (x) => (list [1 (fun (y) y)] x 'red -3)\nrun 1")
        self.assertEqual(program.body("f"), under("x", "(list [1 (fun (y) y)] x 'red -3)"))

    def test_cells_in_any_order_with_any_numbers(self):
        text = "run (list #7 #3 (or #7)) where #20 = [1] , #3 = (fun () #7) , #7 = 'a , #900 = #20"
        self.assertEqual(self.line(text), "(list #1 #2 (or #1)) where #1 = 'a , #2 = (fun () #1)")
        self.assertEqual(Program(BOOK, text).start, State(reading(BOOK, read_tree("(list #1 #2 (or #1))", BOOK)), (
            ("quote", (), ("a",)), ("fun", (), (0, ("ref", (), (1,)))))))
        self.assertEqual(self.line("run 1 where #5 = #5"), "1")
        self.assertEqual(self.line("fun f () => 1\nrun f where #1 = f"), "f")

    def test_without_a_word(self):
        program = Program(Book(""), "run 7")
        self.assertEqual((program.book, program.functions, program.start), (Book(""), (), State(integer(7))))


class Refused(unittest.TestCase):

    def refused(self, text, row, why, book=BOOK):
        with self.subTest(text):
            with self.assertRaises(NoProgram) as caught:
                Program(book, text)
            self.assertEqual((caught.exception.row, caught.exception.why), (row, why))

    def test_form_of_other_rows(self):
        for row in ("word w", "rule a => (do a)", "fun", "runs 1", "1", "(run 1)", "fun f", "fun f (x)", "fun f (x => 1",
                    "fun f x => 1", "fun f (x) 1", "fun f () = 1", "fun (f x) => 1", "fun f ((x)) => 1", "fun f (x)) => 1",
                    "fun f [x] => 1", "Run 1", "fun f (x) ( => 1", "* run 1"):
            self.refused(row + "\nrun 1", 0, "form")
            self.refused("fun g () => 1\n\n" + row + "\nrun 1", 1, "form")

    def test_form_of_names(self):
        for name in ("if", "X", "abcdefghi", "f1", "true", "run", "where", "#1", "1", "global", "'a", "[", "f'"):
            self.refused(f"fun {name} () => 1\nrun 1", 0, "form")
            self.refused(f"fun f (x {name}) => 1\nrun 1", 0, "form")

    def test_form_behind_and_without_a_run(self):
        self.refused("run 1\nfun f () => 1", 1, "form")
        self.refused("run 1\nrun 1", 1, "form")
        self.refused("fun f () => 1\n\nrun 1\n\n\nrun 2\nrun 3", 2, "form")
        self.refused("run 1\nnothing", 1, "form")
        self.refused("", 0, "form")
        self.refused(" \n  \n", 0, "form")
        self.refused("\nfun f () => 1\n\nfun g () => 1\n", 2, "form")
        self.refused("word w\nfun g () => 1", 0, "form")

    def test_form_of_lines(self):
        for line in ("1 where", "1 where #1", "1 where #1 =", "1 where 1 = 1", "1 where #1 = 1 ,", "1 = 1", "1 , 2",
                     "where #1 = 1 where #2 = 1", "1 where #1 = 1 = 2", "1 where , #1 = 1", "1 where #0 = 1",
                     "1 where #1 = 1 #2 = 2", "1 ) where"):
            if line != "1 where #1 =":
                self.refused("run " + line, 0, "form")
            self.refused("fun f () => 1\nrun " + line, 1, "text" if line == "1 where #1 =" else "form")

    def test_twice(self):
        self.refused("fun f () => 1\nfun g () => 1\nfun f (x) => 1\nrun 1", 2, "twice")
        self.refused("fun f () => 1\nfun one (x) => 1\nrun 1", 1, "twice")
        self.refused("fun f () => 1\nfun f () => 1\nfun two () => 1\nfun f () => 1\nrun 1", 1, "twice")

    def test_text(self):
        wrong = ("", "(", ")", "(or)", "(or 1", "1 2", "x", "(nor 1)", "(for 1 2 3)", "(fun (1) 1)", "(let x 1)", "*", "if", "[x]",
                 "[(or 1)]", "(if 1 2)", "(let x [x] x)", "#0", "(or 1 2 3 4 5 6 7 8)", "'if", "-0", "01", "(fun (a b c d e) 1)",
                 "(list where)" , "(do =)", "..r", "!x")
        for text in wrong:
            self.refused(f"fun f () => {text}\nrun 1", 0, "text")
            self.refused(f"fun f () => 1\nrun {text}", 1, "text")
            self.refused(f"fun f () => 1\nrun #1 where #1 = {text}", 1, "text")
            self.refused(f"fun f () => 1\nrun 1 where #1 = {text} , #2 = 1", 1, "text")
        for text in ("1 where #1 = 1", "1 = 1", "1 , 2", "=> 1"):
            self.refused(f"fun f () => {text}\nrun 1", 0, "text")

    def test_a_cell_in_a_body(self):
        for body in ("#1", "(list 1 #30)", "[#1]", "(fun () (or #1))"):
            self.refused(f"fun g () => 1\nfun f () => {body}\nrun #1 where #1 = 1 , #30 = 1", 1, "text")

    def test_names_of_other_functions_alone(self):
        self.refused("fun f (x) => x\nfun g () => x\nrun 1", 1, "text")
        self.refused("fun f (x) => x\nrun x", 1, "text")

    def test_cells(self):
        for line in ("#1", "(list #1 #2) where #1 = 1", "#1 where #1 = #2", "1 where #1 = #2", "1 where #1 = 1 , #2 = [#3]",
                     "1 where #1 = 1 , #1 = 1", "#2 where #2 = 1 , #2 = 2", "#1 where #1 = (or 1)", "1 where #1 = (do 1)",
                     "#1 where #1 = (raise 'a)", "#1 where #1 = (let x 1 x)", "#01 where #1 = 1"):
            self.refused("run " + line, 0, "text" if "#01" in line else "cells")
            self.refused("fun f () => 1\nrun " + line, 1, "text" if "#01" in line else "cells")

    def test_two_things_wrong(self):
        # For each reason a row that is wrong for it and right for all else; with a line behind them that is right or wrong.
        rows = {"form": "fun f => 1", "twice": "fun one () => 1", "text": "fun k () => x"}
        lines = {None: "run 1", "form": "run 1 where", "text": "run x", "cells": "run #1"}
        order = ["form", "twice", "text", "cells", None]
        for first, second in itertools.permutations(rows, 2):
            for last, line in lines.items():
                whys = [first, second, last]
                why = min(whys, key=order.index)
                self.refused(f"fun a () => 1\n{rows[first]}\n\nfun b () => 1\n{rows[second]}\n{line}", [1, 3, 4][whys.index(why)], why)
        for why, row in rows.items():
            other = row.replace("k", "kk").replace("one", "two")
            self.refused(f"fun a () => 1\n{row}\n{other}\nrun 1", 1, why)
        self.refused("run (list x #1) where #2 = 1 , #2 = 1", 0, "text")
        self.refused("run #1 where #1 = (do 1) , #2 = x", 0, "text")

    def test_it_is_one_of_the_errors(self):
        self.assertTrue(issubclass(NoProgram, SaidError))


class Whole(unittest.TestCase):

    def test_body(self):
        program = Program(BOOK, "fun f (x y) => (list x y)\nrun 1")
        self.assertEqual(program.body("f"), (2, ("list", (), (("name", (), (1,)), ("name", (), (0,))))))
        self.assertEqual(program.body(f="two")[0], 0)
        for name in ("g", "or", "", "fun"):
            with self.assertRaises(KeyError):
                program.body(name)

    def test_equal(self):
        text = "fun f (x) => (or x 1)\nfun g () => f\nrun (call f #1) where #1 = 2"
        program = Program(BOOK, text)
        self.assertEqual(program, Program(BOOK, "fun g () => f\nfun  f (y) => (or y 1)\n\nrun (call f #5) where #5 = 2 , #6 = 7"))
        for other in ("fun f (x) => (or x 2)\nfun g () => f\nrun (call f #1) where #1 = 2",
                      "fun f (x y) => (or y 1)\nfun g () => f\nrun (call f #1) where #1 = 2",
                      "fun f (x) => (or x 1)\nfun h () => f\nrun (call f #1) where #1 = 2",
                      "fun f (x) => (or x 1)\nfun g () => f\nfun h () => 1\nrun (call f #1) where #1 = 2",
                      "fun f (x) => (or x 1)\nfun g () => f\nrun (call f #1) where #1 = 3",
                      "fun f (x) => (or x 1)\nfun g () => f\nrun (call g #1) where #1 = 2"):
            self.assertNotEqual(program, Program(BOOK, other))
        self.assertEqual(program, Program(Book(BOOK.text), text))
        self.assertNotEqual(program, Program(BOOK.with_clear("for", 0, (0,)), text))
        self.assertNotEqual(program, Program(Book(BOOK.text + "\nfun h () => 1"), text))
        for thing in (text, BOOK, None, 1, program.start, (program.book, program.start)):
            self.assertFalse(program == thing)
            self.assertTrue(program != thing)

    def test_arguments_by_name(self):
        self.assertEqual(Program(text="run 1", book=BOOK), Program(BOOK, "run 1"))


if __name__ == "__main__":
    unittest.main()
