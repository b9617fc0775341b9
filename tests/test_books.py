"""[2], [3], [8], [9], [11]: the text of a book, which rule a use takes, in whose scope an argument stands."""

import unittest

from saidanew.books import Book
from saidanew.errors import NoBook

OR = "word or\nrule a => (do a)\nrule a ..r => (let t a (if t t *(or ..r)))"
FOR = "word for\nrule !x a b => (call (fun (x) b) a)"


class Texts(unittest.TestCase):

    def test_the_text_is_kept(self):
        for text in (OR, FOR, OR + "\n" + FOR, "", "fun f () => 1", "fun f (x y) => (plus x y)\n" + OR):
            with self.subTest(text):
                self.assertEqual(Book(text).text, text)
                self.assertEqual(Book(text=text).text, text)

    def test_other_spaces_and_empty_rows(self):
        text = ("\n   \n  word   or \n\n\nrule a  =>  ( do a )\n\n"
                "  rule a   ..r => (let t  a(if t t *  ( or ..r)  )  )\n   \n\n")
        self.assertEqual(Book(text).text, OR)
        self.assertEqual(Book(text), Book(OR))

    def test_brackets_need_no_spaces(self):
        book = Book("fun f(x) => x\nfun g( )  =>(list(call f 1)(list)'red)")
        self.assertEqual(book.text, "fun f (x) => x\nfun g () => (list (call f 1) (list) 'red)")

    def test_stars_stand_straight_ahead(self):
        book = Book("word w\nrule a => (seq * (do a)*(list))")
        self.assertEqual(book.text, "word w\nrule a => (seq *(do a) *(list))")

    def test_every_form_of_an_expression(self):
        body = ("(list 0 12 -3 999999999999 'red true false f (fun () 1) (fun (x y z u) x) (call f) (call f 1 2) "
                "(let x 1 x) (if true 1 2) (do 1) (not 1) (first 1) (rest 1) (none 1) (cell 1) (get 1) (raise 1) "
                "(say 1) (seq 1 2) (plus 1 2) (minus 1 2) (times 1 2) (less 1 2) (same 1 2) (put 1 2) (set 1 2) "
                "(list) (try 1 x x) (or 1 2))")
        text = OR + "\nfun f () => " + body
        self.assertEqual(Book(text).text, text)
        text = OR + "\nfun f () => 1\nword w\nrule a => (seq a " + body + ")"
        self.assertEqual(Book(text).text, text)

    def test_no_word_and_nothing_at_all(self):
        for text in ("", "\n", "   ", " \n \n"):
            book = Book(text)
            self.assertEqual((book.text, book.words, book.functions, len(book)), ("", (), (), 0))
            self.assertEqual(book, Book(""))

    def test_words_and_functions(self):
        book = Book("fun z () => 1\nword or\nfun or () => 2\nrule a => (do a)\nfun b () => 3\nrule a b => (seq a b)\n"
                    "word and\nrule ..r => (list ..r)\nfun a () => 4")
        self.assertEqual(book.words, ("or", "and"))
        self.assertEqual(book.functions, ("a", "b", "or", "z"))
        self.assertEqual(len(book), 2)
        self.assertEqual([book.rule("or", n) for n in range(4)], [None, 0, 1, None])
        self.assertEqual(len(Book("fun z () => 1")), 0)

    def test_a_function_row_keeps_its_place(self):
        text = "word or\nfun f () => 2\nrule a => (do a)\nfun b () => 3\nrule a b => (seq a b)"
        self.assertEqual(Book(text).text, text)

    def test_equal_by_text_and_to_books_only(self):
        book = Book(OR)
        self.assertTrue(book == Book(OR))
        self.assertFalse(book != Book(OR))
        self.assertTrue(book == Book(" " + OR.replace("\n", "\n\n")))
        self.assertTrue(book != Book("word and\nrule a => (do a)\nrule a ..r => (let t a (if t t *(and ..r)))"))
        self.assertFalse(book == Book(FOR))
        self.assertTrue(book != Book("word or\nrule b => (do b)\nrule a ..r => (let t a (if t t *(or ..r)))"))
        for other in (OR, None, 1, True, ("or",), [], {}, object(), Book):
            with self.subTest(other=other):
                self.assertFalse(book == other)
                self.assertFalse(other == book)
                self.assertTrue(book != other)
        self.assertFalse(Book("") == "")
        self.assertFalse(Book("") == 0)

    def test_properties_cannot_be_set(self):
        book = Book(OR)
        for name in ("text", "words", "functions"):
            with self.assertRaises(AttributeError):
                setattr(book, name, ())
        self.assertEqual(book, Book(OR))


class Rules(unittest.TestCase):

    def test_the_document_s_books(self):
        book = Book(OR)
        self.assertEqual([book.rule("or", n) for n in range(9)], [None, 0] + [1] * 6 + [None])
        self.assertEqual(book.names("or", 3), (False, False, False))
        self.assertEqual(book.scopes("or", 3), ((), (), ()))
        book = Book(FOR)
        self.assertEqual([book.rule("for", n) for n in range(5)], [None, None, None, 0, None])
        self.assertEqual(book.names("for", 3), (True, False, False))
        self.assertEqual(book.scopes("for", 3), ((), (0,)))

    def test_a_rest_alone(self):
        book = Book("word all\nrule ..r => (list ..r)")
        self.assertEqual([book.rule("all", n) for n in range(9)], [0] * 7 + [None] * 2)
        self.assertEqual(book.names("all", 0), ())
        self.assertEqual(book.scopes("all", 0), ())
        self.assertEqual(book.names("all", 6), (False,) * 6)
        self.assertEqual(book.scopes("all", 6), ((),) * 6)
        self.assertIsNone(book.names("all", 7))
        self.assertIsNone(book.scopes("all", 7))

    def test_the_first_rule_wins(self):
        book = Book("word w\nrule a b => (seq a b)\nrule a ..r => (list a ..r)\nrule a b c => (list a b c)\n"
                    "rule a b c d ..r => (list a b c d ..r)\nrule a b => (seq b a)")
        self.assertEqual([book.rule("w", n) for n in range(13)],
                         [None, 1, 0, 1, 1, 1, 1, 1, 3, 3, 3, None, None])

    def test_numbers_that_no_rule_takes(self):
        book = Book(OR + "\n" + FOR)
        for word, n in (("or", 0), ("or", 8), ("or", 100), ("for", 0), ("for", 2), ("for", 4), ("for", 9), ("or", -1)):
            with self.subTest(word=word, n=n):
                self.assertIsNone(book.rule(word, n))
                self.assertIsNone(book.names(word, n))
                self.assertIsNone(book.scopes(word, n))

    def test_unknown_words(self):
        book = Book("fun f (a) => a\n" + OR)
        for word in ("and", "f", "", "let", "rule", "a"):
            for n in range(3):
                with self.subTest(word=word, n=n):
                    self.assertIsNone(book.rule(word, n))
                    self.assertIsNone(book.names(word, n))
                    self.assertIsNone(book.scopes(word, n))

    def test_by_name(self):
        book = Book(text=FOR)
        self.assertEqual(book.rule(word="for", n=3), 0)
        self.assertEqual(book.names(n=3, word="for"), (True, False, False))
        self.assertEqual(book.scopes(word="for", n=3), ((), (0,)))

    def test_the_same_call_gives_the_same(self):
        book = Book(FOR)
        first = (book.rule("for", 3), book.names("for", 3), book.scopes("for", 3), book.words, book.text)
        book.rule("or", 1)
        book.with_clear("for", 0, (0,))
        book.renamed({"for": "loop"})
        self.assertEqual((book.rule("for", 3), book.names("for", 3), book.scopes("for", 3), book.words, book.text), first)


class Scopes(unittest.TestCase):

    def scopes(self, rows, word, n):
        return Book("\n".join(rows)).scopes(word, n)

    def test_binders_of_every_kind(self):
        for template, scopes in (
            ("(let x a b)", ((), (0,))),
            ("(let x b a)", ((0,), ())),
            ("(try a x b)", ((), (0,))),
            ("(try b x a)", ((0,), ())),
            ("(call (fun (x) a) b)", ((0,), ())),
            ("(fun (x) (list a b))", ((0,), (0,))),
            ("(fun (y x z) (list a b))", ((0,), (0,))),
            ("(list a b (fun (x) x))", ((), ())),
            ("(let x (list a (fun (y) b)) x)", ((), ())),
            ("(let y a (let x y (let z x b)))", ((), (0,))),
        ):
            with self.subTest(template):
                self.assertEqual(self.scopes(["word w", "rule !x a b => " + template], "w", 3), scopes)

    def test_the_indexes_are_those_of_all_arguments(self):
        rows = ["word w", "rule a !x b !y => (let y a (let x 1 b))"]
        self.assertEqual(self.scopes(rows, "w", 4), ((), (1, 3)))
        self.assertEqual(Book("\n".join(rows)).names("w", 4), (False, True, False, True))
        rows = ["word w", "rule a !x b !y => (list (fun (y) a) (fun (x) b))"]
        self.assertEqual(self.scopes(rows, "w", 4), ((3,), (1,)))

    def test_ascending_whatever_stands_outermost(self):
        for template in ("(fun (x y z) a)", "(fun (z y x) a)", "(fun (z) (let y 1 (fun (x) a)))"):
            self.assertEqual(self.scopes(["word w", "rule !x !y !z a => " + template], "w", 4), ((0, 1, 2),))

    def test_several_places_in_one_scope(self):
        rows = ["word w", "rule !x a b => (let x (list b b) (list a a (fun (y) a)))"]
        self.assertEqual(self.scopes(rows, "w", 3), ((0,), ()))

    def test_own_binders_make_no_scope(self):
        rows = ["word w", "rule a b => (let t a (fun (u) (seq t b)))"]
        self.assertEqual(self.scopes(rows, "w", 2), ((), ()))

    def test_by_the_rule_of_a_use(self):
        rows = FOR.split("\n") + ["word w", "rule c !y d => (do (for y c d))"]
        self.assertEqual(self.scopes(rows, "w", 3), ((), (1,)))
        rows = FOR.split("\n") + ["word w", "rule c !y d => (do (for y d c))"]
        self.assertEqual(self.scopes(rows, "w", 3), ((1,), ()))
        rows = FOR.split("\n") + ["word w", "rule a b => (do (for i a (plus i b)))"]
        self.assertEqual(self.scopes(rows, "w", 2), ((), ()))

    def test_through_several_words(self):
        rows = FOR.split("\n") + [
            "word two", "rule !x !y a b c => (do (for x a *(for y b c)))",
            "word more", "rule c !p a !q b => (do *(two q p a b c))",
        ]
        book = Book("\n".join(rows))
        self.assertEqual(book.scopes("two", 5), ((), (0,), (0, 1)))
        self.assertEqual(book.scopes("more", 5), ((1, 3), (), (3,)))
        self.assertEqual(book.names("more", 5), (False, True, False, True, False))

    def test_by_a_later_rule_of_the_own_word(self):
        rows = ["word w", "rule !x a b c => (seq a (w x b c))", "rule !x a b => (let x a b)"]
        book = Book("\n".join(rows))
        self.assertEqual(book.scopes("w", 4), ((), (), (0,)))
        self.assertEqual(book.scopes("w", 3), ((), (0,)))

    def test_by_the_rule_that_is_taken(self):
        rows = ["word w", "rule !x a => (fun (x) a)", "rule a !x => (let x a x)",
                "word v", "rule !y a => (do (w y a))"]
        book = Book("\n".join(rows))
        self.assertEqual(book.names("w", 2), (True, False))
        self.assertEqual(book.scopes("v", 2), ((0,),))

    def test_each_number_of_arguments(self):
        rows = ["word w", "rule a => (do a)", "rule !x a => (fun (x) a)", "rule a b c => (list a b c)",
                "rule !x a b !y => (list (fun (x) a) (fun (y) b))"]
        book = Book("\n".join(rows))
        self.assertEqual([book.names("w", n) for n in range(6)],
                         [None, (False,), (True, False), (False,) * 3, (True, False, False, True), None])
        self.assertEqual([book.scopes("w", n) for n in range(6)],
                         [None, ((),), ((0,),), ((), (), ()), ((0,), (3,)), None])

    def test_name_arguments_alone(self):
        book = Book("word w\nrule !x => (fun (x) x)")
        self.assertEqual((book.rule("w", 1), book.names("w", 1), book.scopes("w", 1)), (0, (True,), ()))

    def test_a_name_that_a_use_hides(self):
        rows = FOR.split("\n") + ["fun f (i) => (for i i i)", "fun g (i) => (for j i (plus i j))"]
        self.assertEqual(len(Book("\n".join(rows))), 1)

    def test_a_long_chain_of_words(self):
        rows = ["word wa", "rule !x a b => (let x a b)"]
        for before, word in zip("abcdefghijk", "bcdefghijkl"):
            inner = f"(w{before} y a a)"
            rows += [f"word w{word}", f"rule !x a b => (list (w{before} x a b) {inner} {inner} {inner} {inner})"]
        book = Book("\n".join(rows))
        self.assertEqual(len(book), 12)
        self.assertEqual(book.scopes("wl", 3), ((), (0,)))


class Bounds(unittest.TestCase):

    def test_a_book_as_large_as_may_be(self):
        rows = []
        inside = "a"
        for _ in range(5):
            inside = f"(do {inside})"
        for word in "abcdefghijkl":
            rows.append("word " + word)
            rows.append("rule !x a !y b => (let x a (let y 1 (list b b b b b b b b b b b b b b b b b b)))")
            rows.append(f"rule !x a b => (let x {inside} (list b b b b b b b b b b b b b b b))")
            rows.append("rule a b => (list a b a b a b a b a b a b a b a b a b a b a b a)")
            rows.append("rule a => (list a a a a a a a a a a a a a a a a a a a a a a a)")
            if word < "g":
                rows.append(f"fun f{word} (a b c d) => (list a b c d)")
        book = Book("\n".join(rows))
        self.assertEqual((len(book), len(book.functions)), (12, 6))
        self.assertEqual(book.scopes("l", 4), ((), (0, 2)))

    def test_somewhat_more_is_no_error(self):
        rows = []
        for word in "abcdefghijklmnop":
            rows += ["word " + word] + ["rule a b c d e ..r => (list a b c d e ..r)"] * 6
            rows += [f"fun f{word} (a b c d e f) => (list a b c d e f 1234567890123456)"]
        book = Book("\n".join(rows))
        self.assertEqual((len(book), len(book.functions)), (16, 16))
        self.assertEqual([book.rule("p", n) for n in (4, 5, 11, 12)], [None, 0, 0, None])

    def test_deep_templates(self):
        deep = "a"
        for _ in range(40):
            deep = f"(do {deep})"
        self.assertEqual(Book(f"word w\nrule a => {deep}").scopes("w", 1), ((),))
        with self.assertRaises(NoBook):
            Book(f"word w\nrule a => {deep[:-1]}")


if __name__ == "__main__":
    unittest.main()
