"""[10]: the reasons for which a book is refused, in their order."""

import unittest

from saidanew.books import Book
from saidanew.errors import NoBook

REASONS = ("form", "twice", "root", "word", "names", "count", "loop", "scope", "unknown", "place")
FOR = "word for\nrule !x a b => (call (fun (x) b) a)\n"
OR = "word or\nrule a => (do a)\nrule a ..r => (let t a (if t t *(or ..r)))\n"
ALL = "word all\nrule ..r => (list ..r)\n"
TWO = "word two\nrule !x !y a => (fun (x y) a)\n"


class Refusals(unittest.TestCase):

    def accepted(self, *texts):
        for text in texts:
            with self.subTest(accepted=text):
                self.assertIsInstance(Book(text), Book)

    def refused(self, row, why, *texts):
        for text in texts:
            with self.subTest(refused=text):
                with self.assertRaises(NoBook) as caught:
                    Book(text)
                self.assertEqual((caught.exception.row, caught.exception.why), (row, why))

    def rules(self, *rules):
        """Books of one word with this rule each."""
        return ["word w\nrule " + rule for rule in rules]


class Forms(Refusals):

    def test_rows_that_are_none(self):
        self.accepted("word w\nrule a => (do a)\nfun f (a) => a")
        for row in ("hello", "words w", "func f (a) => a", "run f (a) => a", "rule f (a) => a", "rules a => (do a)", "(word w)", "f (a) => a", "run 1", "run (w 1)", "=>", "(", ")",
                    "where", "# x", "word", "word w v", "word (w)", "rule", "fun", "fun f", "fun f (a)", "fun f (a) =>",
                    "fun f => 1", "fun f a => a", "fun f (a => a", "fun f a) => a", "fun f (a) a", "fun f (a) = > a",
                    "fun f (a) => a a", "fun (a) => a", "fun f (a) => (a", "fun f (a) => a)", "fun f ((a)) => a",
                    "fun f [a] => a", "fun f (a) => => a"):
            self.refused(2, "form", "word w\nrule a => (do a)\n" + row + "\nword v\nrule a => (do a)")

    def test_rules_that_are_none(self):
        self.accepted(*self.rules("a => (do a)", "..a => (list ..a)", "!a b => (fun (a) b)"))
        self.refused(1, "form", *self.rules(
            "a", "a =>", "=> (list)", "=> => (list)", "a (do a)", "a => (do a) a", "a => (do a", "a => do a)", "a => (do a))",
            "a => do a", "(a) => (do a)", "a => ()", "a => (do)", "a => (do a a)", "a => (a => a)", "a = (do a)",
            "a b => (plus a)", "a b => (plus a b a)", "a => (call)", "a b => (let a b)", "a b => (let x a b b)",
            "a b => (try a b)", "a b => (if a b)", "a => (fun a)", "a => (fun (x))", "a => (fun x a)", "a => (fun () a a)",
            "a => (call a (fun))", "a => (do ())", "a => ((do a))", "a => (1 a)", "a => ('red a)", "a => (do a))("))

    def test_each_head_with_each_number_of_items(self):
        sizes = {1: "do not first rest none cell get raise say", 2: "seq plus minus times less same put set", 3: "if"}
        shapes = [(f"({head}{{}})", (size,)) for size, heads in sizes.items() for head in heads.split(" ")]
        shapes += [("(let x{})", (2,)), ("(try 1 x{})", (1,)), ("(fun (){})", (1,)), ("(fun (x){})", (1,)),
                   ("(call{})", (1, 2, 3, 4)), ("(list{})", (0, 1, 2, 3, 4))]
        for shape, right in shapes:
            for many in range(5):
                text = shape.format(" 1" * many)
                if many in right:
                    self.accepted(f"fun f () => {text}", *self.rules(f"a => (list a {text})"))
                else:
                    self.refused(0, "form", f"fun f () => {text}")
                    self.refused(1, "form", *self.rules(f"a => (list a {text})", f"a => {text}"))

    def test_five_parameters_of_a_fun_are_too_many(self):
        self.accepted(*self.rules("a => (fun (b c d e) a)"))
        self.refused(1, "form", *self.rules("a => (fun (b c d e f) a)"))
        self.refused(0, "form", "fun f () => (fun (b c d e g) b)")

    def test_a_rule_where_no_word_was_begun(self):
        self.refused(0, "form", "rule a => (do a)", "rule a => (do a)\nword w\nrule a => (do a)", "rule")
        self.refused(1, "form", "fun f () => 1\nrule a => (do a)\nword w\nrule a => (do a)")

    def test_a_word_without_a_rule(self):
        self.refused(0, "form", "word w", "word w\nfun f () => 1", "word w\nword v\nrule a => (do a)",
                     "word w\nfun f () => 1\nword v\nrule a => (do a)", "word w\nword w\nrule a => (do a)")
        self.refused(2, "form", "word v\nrule a => (do a)\nword w", "word v\nrule a => (do a)\nword v")
        self.accepted("word w\nfun f () => 1\nfun g () => 1\nrule a => (do a)")

    def test_each_row_that_begins_with_rule_counts(self):
        self.refused(1, "form", "word w\nrule", "word w\nrule => 1", "word w\nrule(a) => a", "word w\nrule\nrule a => (do a)")
        self.refused(2, "form", "word w\nfun f () => 1\nrule A => (do A)")
        self.refused(0, "form", "word w\nrules a => (do a)", "word w\n(rule a => (do a))")

    def test_names_that_are_none(self):
        wrong = ("A", "aB", "a1", "1", "-1", "abcdefghi", "let", "use", "made", "int", "true", "false", "word", "rule", "run",
                 "where", "'a", "a'", "#1", "*", "..", "!", "..a.", "a=>", "_", "a-b", "\"a\"")
        self.accepted("word abcdefgh\nrule abcdefgh => (fun (abcdefgi) abcdefgh)\nfun abcdefgh (abcdefgh) => 1")
        for name in wrong:
            self.refused(0, "form", f"word {name}\nrule a => (do a)", f"fun {name} () => 1", f"fun f ({name}) => 1",
                         f"fun f (a {name}) => 1", f"fun f () => (let {name} 1 2)", f"fun f () => (try 1 {name} 2)",
                         f"fun f () => (fun ({name}) 1)", f"fun f () => (fun (a {name}) 1)", f"fun f () => '{name}")
            self.refused(1, "form", *self.rules(
                f"{name} => (do 1)", f"!{name} a => (fun (b) a)", f"a ..{name} => (list a)", f"a {name} => (do a)",
                f"a => (let {name} 1 a)", f"a => (try 1 {name} a)", f"a => (fun ({name}) a)", f"a => (fun (b {name}) a)"))

    def test_expressions_that_are_none(self):
        for token in ("A", "a1", "007", "00", "-", "-0", "-01", "--1", "+1", "1.5", "1a", "abcdefghi", "let", "int", "use", "word",
                      "where", "'", "''a", "'1", "'A", "'let", "'true", "'abcdefghi", "!a", "=>", "=", ",", "**", "*a", "a*",
                      "..", "...r", "True"):
            self.refused(1, "form", *self.rules(f"a => (seq a {token})"))
            self.refused(0, "form", f"fun f (a) => {token}", f"fun f (a) => (list a {token})")

    def test_heads_that_are_not_written(self):
        for head in ("int", "quote", "flag", "global", "made", "ref", "name", "use", "true", "false", "word", "rule", "run",
                     "where", "Do", "do1", "abcdefghi", "1", "'a", "#1", "..a"):
            self.refused(0, "form", f"fun f (a) => ({head} a)", f"fun f (a) => (do ({head}))")
            self.refused(1, "form", *self.rules(f"a => ({head} a)", f"a => (do ({head} a))"))

    def test_cells_and_made(self):
        for thing in ("#1", "#12", "[]", "[ ]", "[1]", "[1 2]", "[", "]", "[(fun () 1)]"):
            self.refused(0, "form", f"fun f (a) => {thing}", f"fun f (a) => (list a {thing})")
            self.refused(1, "form", *self.rules(f"a => (list a {thing})", f"a => {thing}"))

    def test_stars(self):
        self.accepted(*self.rules("a => (do *(do a))", "a => (seq *(list) *(fun (x) *(do a)))"))
        self.refused(1, "form", *self.rules(
            "a => (do *a)", "a => (seq *1 a)", "a => (do * *(do a))", "a => (do **(do a))", "a => (do a *)", "a => (* do a)",
            "a => (*do a)", "a => *a", "a => *", "a => (do a) *", "a => (fun *(x) a)", "a => (let *x 1 a)", "a => (seq *'b a)",
            "* a => (do a)", "a * => (do a)", "a => (do * )", "a => (list *)", "a => (list a *)"))
        self.refused(1, "form", *self.rules("a ..r => (list a *..r)"))
        self.refused(0, "form", "fun f (a) => *(do a)", "fun f (a) => (do *(do a))", "fun f (a) => *a", "fun f *(a) => a",
                     "fun f (a) => (list a *)")

    def test_the_rest_elsewhere(self):
        self.accepted(*self.rules("a ..r => (list a ..r)", "a ..r => (call a ..r)", "..r => (do (list ..r))"))
        self.accepted(ALL + "word w\nrule a ..r => (seq a (all ..r))")
        self.refused(1, "form", *self.rules(
            "a ..r => (list ..r a)", "a ..r => (call ..r)", "a ..r => (call ..r a)", "a ..r => (do ..r)", "a ..r => (plus a ..r)",
            "a ..r => (seq a ..r)", "a ..r => (if a a ..r)", "a ..r => (let x a ..r)", "a ..r => (let ..r a a)",
            "a ..r => (fun (..r) a)", "a ..r => (fun (x) ..r)", "a ..r => (try a x ..r)", "a ..r => ..r", "a ..r => (..r)",
            "a ..r => (list a ..r ..r)", "a ..r => (list a ..r) ..r", "a ..r => (w ..r a)", "a ..r => (put a ..r)"))

    def test_the_rest_with_another_name(self):
        self.refused(1, "form", *self.rules(
            "a ..r => (list a ..s)", "a ..r => (list ..a)", "a => (list ..a)", "a => (list a ..r)", "!a b => (fun (a) (list ..a))",
            "a ..r => (list a ..)", "a ..r => (list a ..r.)", "a ..r => (let s a (list ..s))"))
        self.refused(0, "form", "fun f (r) => (list ..r)", "fun f (..r) => (list ..r)")

    def test_the_rest_is_the_last_argument(self):
        self.refused(1, "form", *self.rules("..r a => (list a ..r)", "..r ..s => (list ..s)", "..r ..r => (list ..r)",
                                            "a !..r => (list a ..r)", "a ..!r => (list a ..r)"))

    def test_rows_of_spaces_are_not_counted(self):
        self.refused(1, "form", "\n\nword w\n   \n\nrule\n\nfun")
        self.refused(2, "form", " \nfun f () => 1\n \nfun g () => 1\n\n\n  \nx")
        self.refused(3, "twice", "\nword w\n\nrule a => (do a)\n\nfun f () => 1\n  \n\nfun f () => 1")


class Twice(Refusals):

    def test_words(self):
        self.accepted("word w\nrule a => (do a)\nword v\nrule a => (do a)")
        self.refused(2, "twice", "word w\nrule a => (do a)\nword w\nrule a => (do a)",
                     "word w\nrule a => (do a)\nword w\nrule a b => (seq a b)")
        self.refused(4, "twice", "word w\nrule a => (do a)\nword v\nrule a => (do a)\nword w\nrule a => (do a)")

    def test_functions(self):
        self.accepted("fun f () => 1\nfun g () => 1", "fun w () => 1\nword w\nrule w => (do w)")
        self.refused(1, "twice", "fun f () => 1\nfun f () => 1", "fun f () => 1\nfun f (x) => x")
        self.refused(3, "twice", "fun f () => 1\nword w\nrule a => (do a)\nfun f () => 1")

    def test_parameters_and_inner_binders_may_be_twice(self):
        self.accepted("fun f (x x) => (fun (x x) x)", "fun f (f) => f", "fun f (x) => (let x x (try x x x))",
                      "word w\nrule a => (fun (x x) (let x a (let x 1 x)))")

    def test_arguments(self):
        self.accepted(*self.rules("a b => (seq a b)", "!a b => (fun (a) b)", "a ..b => (list a ..b)"))
        self.refused(1, "twice", *self.rules(
            "a a => (do a)", "a b a => (list a b)", "!a !a b => (fun (a) b)", "!a a => (fun (a) a)", "a !a => (do a)",
            "a ..a => (list a ..a)", "!a ..a => (list ..a)"))

    def test_binders_with_the_name_of_an_expression_argument_or_rest(self):
        self.accepted(*self.rules("a => (fun (x) a)", "a => (let x 1 a)", "a => (try 1 x a)", "!x a => (fun (x) a)",
                                  "a ..r => (fun (x) (list a ..r))"))
        self.refused(1, "twice", *self.rules(
            "a => (fun (a) a)", "a => (fun (x a) a)", "a => (let a 1 a)", "a => (try 1 a a)", "a => (do (do (fun (a) 1)))",
            "a ..r => (fun (r) (list a ..r))", "a ..r => (let r 1 (list a ..r))", "a ..r => (try 1 r (list a ..r))",
            "!x a => (fun (x) (fun (a) a))"))
        self.refused(3, "twice", FOR + "word w\nrule a => (do (for (fun (a) 1) 1 a))")


class Roots(Refusals):

    def test_roots(self):
        self.accepted(*self.rules("a => (do a)", "a => (list a)", "a => (fun () a)", "a => (call a)", "a => (let x 1 a)"))
        self.refused(1, "root", *self.rules(
            "a => 1", "a => -1", "a => true", "a => false", "a => 'a", "a => a", "a => b", "a => *(do a)", "!a => a",
            "a => (w a)", "a => (w)", "a b => (w a)", "a ..r => (w ..r)", "a ..r => r", "a => *(w a)"))
        self.refused(4, "root", OR + FOR.replace("(call (fun (x) b) a)", "*(call (fun (x) b) a)"))
        self.accepted(OR + "word w\nrule a => (do (or a))")
        self.refused(4, "root", OR + "word w\nrule a => (or a)")

    def test_bodies_of_functions_may_be_anything(self):
        self.accepted("fun f () => 1", "fun f () => true", "fun f () => 'a", "fun f (x) => x", "fun f () => f",
                      OR + "fun f () => (or 1)")


class Words(Refusals):

    def test_words_of_later_rows(self):
        self.accepted(OR + "word w\nrule a => (do (or a))", "word w\nrule a b => (seq b (w a))\nrule a => (do a)")
        self.refused(1, "word", "word w\nrule a => (do (or a))\n" + OR, *self.rules("a => (do (or a))", "a => (do (f a))"))
        self.refused(1, "word", "word w\nrule a => (do (f a))\nfun f (a) => a")
        self.refused(2, "word", "word w\nrule a => (do a)\nrule a b => (list a b (v))\nword v\nrule ..r => (list ..r)")

    def test_uses_anywhere(self):
        self.refused(3, "word", *[FOR + "word w\nrule a => " + template for template in (
            "(do (for x 1 (no a)))", "(let x (no) a)", "(fun (x) (list a (do (no))))", "(call a (no a))",
            "(do (for (no) 1 a))", "(do (no (no a)))")])

    def test_in_functions_all_words_are_known(self):
        self.accepted("fun f (a) => (or a)\n" + OR, OR + "fun f (a) => (or a)")
        self.refused(0, "word", "fun f (a) => (or a)", "fun f (a) => (f a)\n" + OR, "fun f (a) => (do (no))\n" + OR)

    def test_arguments_and_binders_are_no_words(self):
        self.refused(1, "word", *self.rules("a => (do (a))", "a => (let x a (x))", "!x a => (let x a (x 1))"))
        self.refused(0, "word", "fun f (a) => (a 1)")


class Names(Refusals):

    def test_a_rest_and_a_name_argument(self):
        self.accepted("word w\nrule ..r => (list ..r)\nword v\nrule !x a => (fun (x) a)",
                      "word w\nrule !x a => (fun (x) a)\nword v\nrule a ..r => (list a ..r)\nrule a => (do a)")
        self.refused(1, "names", *self.rules("!x a ..r => (fun (x) (list a ..r))", "!x ..r => (list (fun (x) x) ..r)"))

    def test_the_first_row_at_which_both_were(self):
        self.refused(2, "names", "word w\nrule ..r => (list ..r)\nrule !x a => (fun (x) a)\nrule !x => (fun (x) x)",
                     "word w\nrule !x a => (fun (x) a)\nrule a b c ..r => (list a b c ..r)\nrule a => (do a)")
        self.refused(4, "names",
                     "word w\nrule a => (do a)\nrule ..r => (list ..r)\nfun f () => 1\nrule !x a => (fun (x) a)\nrule a b => (seq a b)")


class Counts(Refusals):

    def test_numbers_that_no_rule_takes(self):
        self.accepted(OR + "word w\nrule a => (list (or a) (or a a a a a a a))", FOR + "fun f (a) => (for x a x)",
                      ALL + "fun f () => (all)")
        self.refused(4, "count", *[OR + "word w\nrule a => " + template for template in (
            "(list a (or))", "(do (or a a a a a a a a))", "(do (or a (or)))")])
        self.refused(3, "count", OR + "fun f (a) => (or)", OR + "fun f (a) => (or (or a a a a a a a a))",
                     FOR + "word w\nrule a => (do (for x a))", FOR + "word w\nrule a => (do (for x a a a))")
        self.refused(2, "count", FOR + "fun f (a) => (for x a)", FOR + "fun f (a) => (for x a a a)",
                     FOR + "fun f (a) => (for)", ALL + "fun f (a) => (all a a a a a a a)")

    def test_numbers_of_the_own_word(self):
        self.accepted("word w\nrule a b => (seq a (w b))\nrule a => (do a)")
        self.refused(1, "count", *self.rules("a b => (seq a (w b))", "a => (do (w a a))", "a => (list a (w))"))

    def test_something_else_than_a_name(self):
        for thing in ("1", "'x", "true", "(do x)", "(fun (x) x)", "(list)", "(for x 1 2)"):
            self.refused(2, "count", FOR + f"fun f (x) => (for {thing} 1 2)", FOR + f"fun f (x) => (do (for {thing} 1 2))")
            self.refused(3, "count", FOR + f"word w\nrule a => (do (for {thing} 1 a))")
        self.refused(3, "count", FOR + "word w\nrule a => (do (for *(do 1) 1 a))")
        self.accepted(FOR + "fun f (x) => (for x 1 2)", FOR + "fun f (x) => (for f 1 2)", FOR + "fun f (x) => (for for 1 2)")

    def test_the_name_of_an_expression_argument_or_of_the_rest(self):
        self.accepted(FOR + "word w\nrule a => (do (for x 1 a))", FOR + "word w\nrule !x a => (do (for x 1 a))",
                      FOR + "word w\nrule a ..r => (do (for x a (list ..r)))")
        self.refused(3, "count", FOR + "word w\nrule a => (do (for a 1 a))", FOR + "word w\nrule a b => (do (for a 1 b))",
                     FOR + "word w\nrule a ..r => (do (for r a (list ..r)))",
                     FOR + "word w\nrule a ..r => (do (for a a (list ..r)))")

    def test_one_name_for_two(self):
        self.accepted(TWO + "fun f (x) => (two x y x)", TWO + "word w\nrule !p !q a => (do (two p q a))",
                      FOR + "fun f (x) => (for x 1 (for x 2 x))", TWO + "fun f (x) => (two y x (two x y 1))")
        self.refused(2, "count", TWO + "fun f (x) => (two x x 1)", TWO + "fun f (y) => (two x x y)")
        self.refused(3, "count", TWO + "word w\nrule !p a => (do (two p p a))", TWO + "word w\nrule a => (do (two p p a))")

    def test_each_length_of_the_rest_with_which_the_rule_is_taken(self):
        self.accepted(OR, ALL + "word w\nrule ..r => (do (all ..r))",
                      ALL + "word w\nrule a ..r => (list a (all ..r))")
        # Seven arguments are too many for a use of `all`, six are not.
        self.refused(3, "count", ALL + "word w\nrule a ..r => (do (all a ..r))")
        self.accepted(ALL + "word w\nrule a b c d e f g => (list a b c d e f g)\nrule a ..r => (do (all a ..r))")
        # No rule takes a use of `or` without arguments.
        self.refused(4, "count", OR + "word w\nrule a ..r => (list a (or ..r))")
        self.accepted(OR + "word w\nrule a => (do a)\nrule a ..r => (list a (or ..r))")
        self.refused(2, "count", "word or\nrule a b => (seq a b)\nrule a ..r => (let t a (if t t *(or ..r)))")
        self.refused(1, "count", "word or\nrule a ..r => (let t a (if t t *(or ..r)))\nrule a => (do a)")

    def test_lengths_that_an_earlier_rule_takes_are_not_looked_at(self):
        head = "word v\nrule a b c => (list a b c)\nrule a b c d => (list a b c d)\nword w\n"
        some = "rule {0} => (list {0})\n"
        taken = "".join([some.format(" ".join("abcdefg"[:n])) for n in (1, 4, 5, 6, 7)])
        self.accepted(head + taken + "rule a ..r => (list a (v 1 1 ..r))")
        self.refused(9, "count", head + taken + "rule a ..r => (list a (v 1 ..r))")
        self.refused(8, "count", head + taken.replace(some.format("a b c d"), "") + "rule a ..r => (list a (v 1 1 ..r))")

    def test_a_rule_that_is_never_taken(self):
        self.accepted("word w\nrule ..r => (list ..r)\nrule ..r => (list (fun (x) x) ..r)",
                      FOR + "word w\nrule a ..r => (list a ..r)\nrule a ..r => (list a (for ..r))")
        self.refused(2, "count", "word w\nrule a ..r => (list a ..r)\nrule a ..r => (list a (w) (list ..r))")

    def test_no_name_argument_beside_a_rest(self):
        self.accepted("word v\nrule ..r => (list ..r)\nword w\nrule a ..r => (list a (v ..r))")
        self.refused(3, "count", FOR + "word w\nrule a b c ..r => (list b c (for ..r))",
                     FOR + "word w\nrule a ..r => (list a (for x ..r))")
        # The rest has just the length 0 here, so the use of `v` has two arguments.
        only = "rule a b c => (list a b c)\nrule a b c d => (list a b c d)\nrule a b c d e => (list a b c d e)\n"
        more = ("rule a b c d e f => (list a b c d e f)\nrule a b c d e f g => (list a b c d e f g)\n"
                "rule a b c d e f g h => (list a b c d e f g h)\n")
        last = "rule a b ..r => (list (v a b ..r))"
        self.accepted("word v\nrule a b => (seq a b)\nword w\n" + only + more + last)
        self.refused(9, "count", "word v\nrule !x b => (fun (x) b)\nword w\n" + only + more + last)
        self.refused(9, "count", "word v\nrule !x b => (fun (x) b)\nword w\n" + only + more + last.replace("v a b", "v x a"))


class Loops(Refusals):

    def test_fewer_arguments_of_the_own_word(self):
        self.accepted("word w\nrule a b c => (list a (w b c))\nrule a b => (list a (w b))\nrule a => (do a)")
        self.refused(1, "loop", *self.rules("a => (do (w a))", "a b => (list a b (w a b))", "a => (do (w (do a)))",
                                            "a => (list a (do (fun () (w 1))))", "!x a => (fun (x) (w y a))"))
        self.refused(1, "loop", "word w\nrule a => (do (w a a))\nrule a b => (seq a b)")
        self.refused(2, "loop", "word w\nrule a b => (seq a b)\nrule a => (do (w a a))")
        self.refused(2, "loop", "word w\nrule a b => (seq a b)\nrule a b => (do (w a b))")

    def test_other_words_may_have_as_many(self):
        self.accepted(OR + "word w\nrule a => (do (or a))", OR + "word w\nrule a => (do (or a a a))")

    def test_with_a_rest(self):
        self.accepted(OR, "word w\nrule a ..r => (list a ..r)\nrule a b ..r => (list a b (w 1 ..r))")
        self.refused(1, "loop", *self.rules("..r => (list *(w ..r))", "a ..r => (list (w a ..r))", "a ..r => (list a (w 1 ..r))",
                                            "..r => (list (w) (list ..r))", "a ..r => (list (w a) (list ..r))"))
        self.accepted("word w\nrule a => (do a)\nrule a b ..r => (list (w a) b (list ..r))")
        self.refused(2, "loop", "word w\nrule a => (do a)\nrule a b ..r => (list (w a b) (list ..r))")

    def test_functions_may_loop(self):
        self.accepted("fun f (x) => (call f x)", OR + "fun f (x) => (or x (call f x))")


class Scopes(Refusals):

    def test_two_places_in_different_scopes(self):
        self.accepted(*self.rules("!x a => (let x 1 (list a a))", "!x a b => (let x (list b b) a)"))
        self.refused(1, "scope", *self.rules(
            "!x a => (let x a a)", "!x a => (try a x a)", "!x a => (list a (fun (x) a))", "!x !y a => (list (fun (x) a) (fun (y) a))",
            "!x !y a => (fun (x) (list a (fun (y) a)))", "!x !y a => (fun (x) (let y a a))"))

    def test_by_the_rule_of_a_use(self):
        self.accepted(FOR + "word w\nrule !x a b => (list (for x a b) a)", FOR + "word w\nrule a => (do (for x a a))")
        self.refused(3, "scope", FOR + "word w\nrule !x a => (do (for x a a))",
                     FOR + "word w\nrule !x a b => (list (for x a b) b)",
                     FOR + "word w\nrule !x a b => (list (for x b a) (for y a b))")
        self.refused(2, "scope", "word w\nrule !x b c => (let x b c)\nrule !x a b c => (list (w x a b) b c)")
        self.refused(1, "scope", "word w\nrule !x a b c => (list (w x a b) b c)\nrule !x b c => (let x b c)")
        self.accepted("word w\nrule !x a b c => (list (w x a b) a c)\nrule !x b c => (let x b c)")

    def test_own_binders_make_no_difference(self):
        self.accepted(*self.rules("a => (let x a a)", "a => (try a x (fun (y) a))", "a ..r => (let x a (list a ..r))"))


class Unknown(Refusals):

    def test_names(self):
        self.accepted(*self.rules("a => (let x a x)", "!x a => (let x a x)"), "word w\nrule a => (seq a f)\nfun f () => 1",
                      "fun f () => 1\nword w\nrule f => (do f)", "fun f (x) => (list f x g)\nfun g () => f")
        self.refused(1, "unknown", *self.rules(
            "a => (seq a b)", "a => (let x x a)", "a => (try x x a)", "a => (list a (fun (x) 1) x)", "a => (seq w a)",
            "a => (call b a)", "!x a => (seq x (fun (x) a))", "!x a => (let x x a)", "!x a => (list (fun (x) a) x)",
            "!x a => (seq x a)", "!x a => (list a x)"))

    def test_functions(self):
        self.refused(0, "unknown", "fun f () => x", "fun f (x) => y", "fun f (x) => (let y y x)", "fun f () => (call g)",
                     "fun f () => or\n" + OR, "fun f () => (list (fun (x) x) x)", "fun f () => (try x x 1)")
        self.refused(1, "unknown", "fun f (x) => x\nfun g () => x")

    def test_a_name_argument_out_of_its_scope_though_a_function_has_its_name(self):
        self.refused(2, "unknown", "fun x () => 1\nword w\nrule !x a => (seq x (fun (x) a))",
                     "fun x () => 1\nword w\nrule !x a => (let x x a)")
        self.accepted("fun x () => 1\nword w\nrule !x a => (fun (x) (seq x a))", "fun x () => 1\nword w\nrule a => (let x x a)")

    def test_the_name_of_the_rest(self):
        self.refused(1, "unknown", *self.rules("a ..r => (list a r ..r)"))
        self.accepted("fun r () => 1\nword w\nrule a ..r => (list a r ..r)")

    def test_by_the_scope_of_a_use(self):
        self.accepted(FOR + "fun f () => (for x 1 x)", FOR + "word w\nrule a => (do (for x a x))",
                      FOR + "word w\nrule !x a => (do (for x a x))", FOR + "fun f (x) => (for x x x)",
                      FOR + "fun x () => (for x x x)")
        self.refused(2, "unknown", FOR + "fun f () => (for x x 1)", FOR + "fun f () => (for x 1 y)")
        self.refused(3, "unknown", FOR + "word w\nrule a => (do (for x x a))", FOR + "word w\nrule !x a => (do (for x x a))")


class Places(Refusals):

    def test_expression_arguments(self):
        self.accepted(*self.rules("a => (do a)", "a => (list a a a)", "a b => (seq b a)"))
        self.refused(1, "place", *self.rules("a => (do 1)", "a b => (do a)", "a b => (do b)", "a => (list)", "a ..r => (list ..r)",
                                             "!x a => (fun (x) x)", "a => (do 'a)"))

    def test_the_rest(self):
        self.accepted(*self.rules("..r => (list ..r)"))
        self.refused(1, "place", *self.rules("..r => (list)", "a ..r => (do a)", "..r => (seq (list ..r) (list ..r))",
                                             "a ..r => (call (list ..r) a ..r)"))

    def test_name_arguments(self):
        self.accepted(*self.rules("!x a => (fun (x) a)", "!x => (list (fun (x) x))"))
        self.refused(1, "place", *self.rules(
            "!x a => (do a)", "!x => (list)", "!x a => (fun (x x) a)", "!x a => (fun (x) (fun (x) a))",
            "!x => (list (fun (x) x) (fun (x) x))", "!x a => (let x 1 (let x 2 a))", "!x !y a => (fun (x) a)"))
        self.accepted(FOR + "word w\nrule !x a => (do (for x 1 a))")
        self.refused(3, "place", FOR + "word w\nrule !x a => (do (for x 1 (for x 2 a)))",
                     FOR + "word w\nrule !x a => (fun (x) (for x 1 a))", FOR + "word w\nrule !x a => (do (for y 1 a))")


# Rows with one reason each and no other one, as a block of their own; the row that is told.
BLOCKS = {
    "form": (("fun ffa () => (do)",), 0),
    "twice": (("word ttw", "rule a a => (do a)"), 1),
    "root": (("word rrw", "rule a => a"), 1),
    "word": (("word www", "rule a => (do (nothing a))"), 1),
    "names": (("word nnw", "rule ..r => (list ..r)", "rule !x a => (fun (x) a)"), 2),
    "count": (("word ccw", "rule a b => (seq a b)", "word ccv", "rule a => (do (ccw a))"), 3),
    "loop": (("word llw", "rule a => (do (llw a))"), 1),
    "scope": (("word ssw", "rule !x a => (let x a a)"), 1),
    "unknown": (("word uuw", "rule a => (seq a b)"), 1),
    "place": (("word ppw", "rule a b => (do a)"), 1),
}
FUNCTION_BLOCKS = {
    "form": (("fun ffa (x) => *(do x)",), 0),
    "twice": (("fun tta () => 1", "fun tta () => 2"), 1),
    "word": (("fun wwa () => (nothing)",), 0),
    "count": (("word ccw", "rule a b => (seq a b)", "fun cca () => (ccw 1)"), 2),
    "unknown": (("fun uua () => b",), 0),
}


class Order(Refusals):

    def test_each_block_by_itself(self):
        self.assertEqual(tuple(BLOCKS), REASONS)
        for blocks in (BLOCKS, FUNCTION_BLOCKS):
            for why, (rows, row) in blocks.items():
                self.refused(row, why, "\n".join(rows), "\n \n".join(rows))
                self.refused(row + 3, why, OR + "\n".join(rows))
                self.refused(row, why, "\n".join(rows) + "\n" + OR)

    def test_two_reasons_in_either_order_of_rows(self):
        for blocks in (BLOCKS, FUNCTION_BLOCKS):
            for other_blocks in (BLOCKS, FUNCTION_BLOCKS):
                for why, (rows, row) in blocks.items():
                    for other, (other_rows, _) in other_blocks.items():
                        if REASONS.index(why) < REASONS.index(other):
                            renamed = [text.replace("ccw", "ddw").replace("ccv", "ddv") for text in other_rows]
                            self.refused(row, why, "\n".join([*rows, *renamed]))
                            self.refused(row + len(renamed), why, "\n".join([*renamed, *rows]))

    def test_one_reason_twice(self):
        for why, (rows, row) in FUNCTION_BLOCKS.items():
            other = [text.replace("a ()", "e ()").replace("a (x)", "e (x)").replace("ccw", "eew") for text in rows]
            self.refused(row, why, "\n".join([*rows, *other]), "\n".join([*other, *rows]))
        for why, (rows, row) in BLOCKS.items():
            other = [text.replace(name, "e" + name) for text in rows for name in [rows[0].split(" ")[1]]]
            if why != "count":
                self.refused(row, why, "\n".join([*rows, *other]), "\n".join([*other, *rows]))

    def test_two_reasons_in_one_row(self):
        for why, *rules in (
            ("form", "a a => (do)", "a => *(do #1)"),
            ("twice", "a a => a", "a a => (no a)", "a a => (do b)", "a => (do (no (fun (a) a)))"),
            ("root", "a => (no a)", "a => b", "a => (w a)", "a b => a", "!x a ..r => a"),
            ("word", "!x a ..r => (list (no) ..r)", "a => (list a b (no))", "a b => (do (no a))", "a => (list (no a) (w a))"),
            ("names", "!x a ..r => (list (w) a)", "!x ..r => (list r x (w x ..r))", "!x a ..r => (let x a a)"),
            ("count", "a => (list (w) (w a))", "a => (list (w) b)", "a b => (do (w a))", "!x a => (let x a (w a))"),
            ("loop", "!x a => (let x a (w x a))", "a => (list (w b))", "a b => (do (w a a))"),
            ("scope", "!x a => (list b (let x a a))", "!x a b => (let x a a)"),
            ("unknown", "a b => (list a c)", "a => (do b)", "!x => (do x)"),
        ):
            self.refused(1, why, *self.rules(*rules))

    def test_later_rows_do_not_matter_for_an_earlier_reason(self):
        self.refused(3, "twice", "word w\nrule a b => (do a)\nrule a => a\nrule a a => (do a)\nword v\nrule a => b")
        self.refused(2, "root", "word w\nrule a b => (do (no a))\nrule a => b\nrule a => (do a)")

    def test_scopes_and_unknown_names_ahead_of_places(self):
        # What stands nowhere stands in no scope.
        text = "word w\nrule !x a => (fun (x) 1)\nword v\nrule "
        self.refused(1, "place", text + "!y b => (list (w y b) b)", text + "!y b => (list b (w y 1))")
        self.refused(3, "unknown", text + "!y b => (list b (w y y))")


if __name__ == "__main__":
    unittest.main()
