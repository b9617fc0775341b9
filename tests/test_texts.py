"""[12], [13], [14]: from texts to trees, and from trees to texts."""

import unittest

from saidanew.books import Book
from saidanew.errors import NoText, NoTree
from saidanew.texts import read_tree, show_tree
from saidanew.trees import is_tree
from tests import samples
from tests.samples import FOR, OR

EMPTY = Book("")
# `for` binds in its last argument, `two` two names at once, `thunk` and `all` read as a `fun`.
BOOK = Book(OR + "\n" + FOR + "\nword two\nrule a !x !y b => (call (fun (y x) b) a a)\nword thunk\nrule a => (fun () a)\n"
            "word all\nrule a ..r => (fun (x) (list a ..r))\nfun f () => 1\nfun ab (x) => x")


def integer(number):
    return ("int", (), (number,))


def name(index):
    return ("name", (), (index,))


class Forms(unittest.TestCase):

    def read(self, text, tree, book=EMPTY, functions=()):
        with self.subTest(text):
            self.assertEqual(read_tree(text, book, functions), tree)
            self.assertTrue(is_tree(tree))

    def test_literals(self):
        for text, head, item in (("0", "int", 0), ("12", "int", 12), ("-3", "int", -3), ("'red", "quote", "red"),
                                 ("true", "flag", True), ("false", "flag", False), ("#1", "ref", 1), ("#120", "ref", 120),
                                 ("'abcdefgh", "quote", "abcdefgh"), ("999999999999", "int", 999999999999)):
            self.read(text, (head, (), (item,)))
        self.assertIs(read_tree("true", EMPTY)[2][0], True)
        self.assertIs(read_tree("false", EMPTY)[2][0], False)

    def test_integers_of_any_length(self):
        for digits in ("1" * 63, "1" * 64, "1" * 65, "9" * 128, "5" + "0" * 300):
            self.read(digits, integer(int(digits)))
            self.read("-" + digits, integer(-int(digits)))
            self.assertEqual(show_tree(integer(-int(digits)), EMPTY), "-" + digits)
        long = "7" * 11000
        self.assertEqual(show_tree(read_tree(long, EMPTY), EMPTY), long)
        long = "-1" + "0" * 9000
        self.assertEqual(show_tree(read_tree(long, EMPTY), EMPTY), long)

    def test_every_head(self):
        one, two, three = integer(1), integer(2), integer(3)
        for head in samples.ONE:
            self.read(f"({head} 1)", (head, (), (one,)))
        for head in samples.TWO:
            self.read(f"({head} 1 2)", (head, (), (one, two)))
        self.read("(if 1 2 3)", ("if", (), (one, two, three)))
        self.read("(let x 1 x)", ("let", (), (one, name(0))))
        self.read("(try 1 x x)", ("try", (), (one, name(0))))
        self.read("(call 1)", ("call", (), (one,)))
        self.read("(call 1 2 3)", ("call", (), (one, two, three)))
        self.read("(list)", ("list", (), ()))
        self.read("(list 1 2 3)", ("list", (), (one, two, three)))
        self.read("(fun () 1)", ("fun", (), (0, one)))
        self.read("(fun (x) x)", ("fun", (), (1, name(0))))
        self.read("(fun (x y z u) (list x y z u))", ("fun", (), (4, ("list", (), (name(3), name(2), name(1), name(0))))))
        self.read("[]", ("made", (), ()))
        self.read("[1 [2] 'a]", ("made", (), (one, ("made", (), (two,)), ("quote", (), ("a",)))))

    def test_spaces_and_line_feeds(self):
        tree = read_tree("(let x (list [1 #2] 'a) (call (fun (y z) y) x -3))", EMPTY)
        for text in ("(let x(list[1 #2]'a)(call(fun(y z)y)x -3))",
                     "\n ( let\nx ( list [ 1\n\n#2 ] 'a )\n(call (fun ( y   z ) y ) x -3 ) )  \n",
                     "  (let x (list [1 #2]'a) (call(fun (y\nz) y) x\n-3))"):
            self.read(text, tree)
        self.read("\n 7 \n", integer(7))
        # What is not parted is one token.
        for text in ("(list 1'a)", "(list 1#1)", "(list a-1)", "(list 'a'b)"):
            with self.assertRaises(NoText) as caught:
                read_tree(text, EMPTY, ("a",))
            self.assertEqual(caught.exception.at, 2)

    def test_bound_names(self):
        self.read("(let x 1 (let y 2 (list x y)))",
                  ("let", (), (integer(1), ("let", (), (integer(2), ("list", (), (name(1), name(0))))))))
        self.read("(fun (x y) (fun (z) (list x y z)))",
                  ("fun", (), (2, ("fun", (), (1, ("list", (), (name(2), name(1), name(0))))))))
        self.read("(try 1 x (try x y (list x y)))",
                  ("try", (), (integer(1), ("try", (), (name(0), ("list", (), (name(1), name(0))))))))

    def test_a_binder_hides_an_outer_one_and_a_later_parameter_an_earlier_one(self):
        self.read("(let x 1 (let x x x))", ("let", (), (integer(1), ("let", (), (name(0), name(0))))))
        self.read("(fun (x x) x)", ("fun", (), (2, name(0))))
        self.read("(fun (x y x) (list x y))", ("fun", (), (3, ("list", (), (name(0), name(1))))))
        self.read("(fun (x) (try x x x))", ("fun", (), (1, ("try", (), (name(0), name(0))))))

    def test_a_binder_is_not_around_the_first_tree(self):
        self.read("(fun (x) (let x x x))", ("fun", (), (1, ("let", (), (name(0), name(0))))))
        self.read("(fun (x) (let y x x))", ("fun", (), (1, ("let", (), (name(0), name(1))))))
        for text in ("(let x x 1)", "(try x x 1)"):
            with self.assertRaises(NoTree) as caught:
                read_tree(text, EMPTY)
            self.assertEqual(caught.exception.path, (0,))

    def test_functions_of_the_book_and_given_ones(self):
        self.read("f", ("global", (), ("f",)), BOOK)
        self.read("g", ("global", (), ("g",)), BOOK, ("g", "h"))
        self.read("(list f ab h)", ("list", (), tuple(("global", (), (one,)) for one in ("f", "ab", "h"))), BOOK, ("g", "h"))
        # A bound name hides a function, and a function may have the name of a word.
        self.read("(list f (let f 1 f))", ("list", (), (("global", (), ("f",)), ("let", (), (integer(1), name(0))))), BOOK)
        self.read("(or or or)", ("use", (), ("or", 2) + (("global", (), ("or",)),) * 2), BOOK, ("or",))

    def test_uses(self):
        self.read("(or 1)", ("use", (), ("or", 1, integer(1))), BOOK)
        self.read("(or 1 2 3)", ("use", (), ("or", 3, integer(1), integer(2), integer(3))), BOOK)
        self.read("(for x 1 (plus x 2))", ("use", (), ("for", 3, integer(1), ("plus", (), (name(0), integer(2))))), BOOK)
        self.read("(let or 1 (or or))", ("let", (), (integer(1), ("use", (), ("or", 1, name(0))))), BOOK)

    def test_a_name_argument_is_seen_in_its_scope_alone(self):
        self.read("(fun (x) (for x x x))", ("fun", (), (1, ("use", (), ("for", 3, name(0), name(0))))), BOOK)
        self.read("(fun (y) (for x y y))", ("fun", (), (1, ("use", (), ("for", 3, name(0), name(1))))), BOOK)
        self.read("(for f f f)", ("use", (), ("for", 3, ("global", (), ("f",)), name(0))), BOOK)
        with self.assertRaises(NoTree) as caught:
            read_tree("(for x x 1)", BOOK)
        self.assertEqual(caught.exception.path, (2,))

    def test_the_first_name_argument_is_outermost(self):
        # The template binds them the other way round.
        self.read("(two 1 x y (list x y))", ("use", (), ("two", 4, integer(1), ("list", (), (name(1), name(0))))), BOOK)
        self.read("(two 1 y x (list x y))", ("use", (), ("two", 4, integer(1), ("list", (), (name(0), name(1))))), BOOK)

    def test_items_of_made(self):
        fun = ("fun", (), (1, name(0)))
        self.read("[(fun (x) x) f true]", ("made", (), (fun, ("global", (), ("f",)), ("flag", (), (True,)))), BOOK)
        self.read("[(thunk 1) (all f 2)]", ("made", (), (("use", (), ("thunk", 1, integer(1))),
                                                         ("use", (), ("all", 2, ("global", (), ("f",)), integer(2))))), BOOK)
        self.read("[#3 [[] (fun () #3)]]", ("made", (), (("ref", (), (3,)), ("made", (), (
            ("made", (), ()), ("fun", (), (0, ("ref", (), (3,)))))))))

    def test_names_bound_outside_of_brackets_are_not_visible_in_them(self):
        self.read("(let f 1 [f (fun (f) f)])",
                  ("let", (), (integer(1), ("made", (), (("global", (), ("f",)), ("fun", (), (1, name(0))))))), BOOK)
        self.read("(let f 1 [(fun () f)])", ("let", (), (integer(1), ("made", (), (("fun", (), (0, ("global", (), ("f",)))),)))), BOOK)
        for text, path in (("(let x 1 [x])", (1, 0)), ("(fun (x) [1 (fun () x)])", (1, 1, 1)),
                           ("(for x 1 [(fun (y) (list y x))])", (3, 0, 1, 1)), ("(fun (x) [[x]])", (1, 0, 0))):
            with self.assertRaises(NoTree) as caught:
                read_tree(text, BOOK)
            self.assertEqual(caught.exception.path, path)

    def test_defaults_and_names_of_arguments(self):
        self.assertEqual(read_tree(text="g", book=BOOK, functions=("g",)), ("global", (), ("g",)))
        self.assertEqual(read_tree(functions=(), book=BOOK, text="f"), ("global", (), ("f",)))
        self.assertEqual(show_tree(tree=name_tree(), book=BOOK, functions=("a",)), "(let b 1 b)")
        self.assertEqual(show_tree(functions=(), tree=name_tree(), book=BOOK), "(let a 1 a)")


def name_tree():
    return ("let", (), (integer(1), name(0)))


class NoTexts(unittest.TestCase):

    def refused(self, at, *texts, book=BOOK, functions=("x",)):
        for text in texts:
            with self.subTest(text):
                with self.assertRaises(NoText) as caught:
                    read_tree(text, book, functions)
                self.assertEqual(caught.exception.at, at)

    def test_no_tokens(self):
        self.refused(0, "", " ", "\n", " \n \n ")

    def test_a_text_that_ends_too_early(self):
        whole = "( let x ( fun ( y z ) ( try ( or 1 [ 2 ] ) u ( list ) ) ) ( for i x ( plus i 1 ) ) )".split(" ")
        read_tree(" ".join(whole), BOOK)
        for many in range(len(whole)):
            self.refused(many, " ".join(whole[:many]))

    def test_something_behind_the_end(self):
        self.refused(1, "1 2", "x )", "1 ]", "true (", "'a [", "#1 #1")
        self.refused(4, "(do 1) 2", "(do 1))", "(do 1) (do 1)", "(do 1)]")
        self.refused(2, "[] []", "[] 1")

    def test_each_head_with_each_wrong_number_of_trees(self):
        for heads, most in ((samples.ONE, 1), (samples.TWO, 2), (("if",), 3)):
            for head in heads:
                for many in range(5):
                    text = f"({head}{' 1' * many})"
                    if many == most:
                        read_tree(text, BOOK)
                    else:
                        self.refused(2 + min(many, most), text)
        self.refused(2, "(call)")

    def test_an_opening_bracket_where_nothing_more_may_stand(self):
        self.refused(3, "(do 1 (do 1))", "(do 1 [1])", "(do 1 #1)")
        self.refused(4, "(plus 1 2 (do 1))", "(plus 1 2 [])")
        self.refused(5, "(let x 1 2 (do 1))", "(try 1 x 2 3)", "(let x 1 2 3)", "(if 1 2 3 (do 1))")

    def test_let_and_try(self):
        self.refused(2, "(let)", "(let 1 2 3)", "(let (x) 1 2)", "(let #1 2 3)", "(let [] 1 2)", "(let 'x 1 2)", "(let let 1 2)")
        self.refused(3, "(let x)")
        self.refused(4, "(let x 1)")
        self.refused(2, "(try)")
        self.refused(3, "(try 1)", "(try 1 2 3)", "(try 1 (do 1) 2)", "(try 1 true 2)", "(try 1 [1] 2)", "(try 1 'x 2)")
        self.refused(4, "(try 1 x)")
        self.refused(6, "(try (do 1) 2 3)")

    def test_fun(self):
        self.refused(2, "(fun)", "(fun x 1)", "(fun 1)", "(fun [x] 1)")
        self.refused(3, "(fun (1) 1)", "(fun ((x)) 1)", "(fun (true) 1)", "(fun (let) 1)")
        self.refused(4, "(fun ())", "(fun (x", "(fun (x 1) x)", "(fun (x] x)")
        self.refused(5, "(fun () 1 2)", "(fun () 1 (do 1))")

    def test_five_names_in_the_brackets_of_a_fun(self):
        read_tree("(fun (a b c d) 1)", BOOK)
        self.refused(7, "(fun (a b c d e) 1)", "(fun (a b c d e f) 1)", "(fun (a b c d 1) 1)")

    def test_heads(self):
        self.refused(1, "()", "(1)", "(1 2)", "('a 1)", "(#1)", "((do 1))", "([1])", "(true 1)", "(false)", "(int 1)", "(quote a)",
                     "(flag true)", "(global f)", "(made 1)", "(ref 1)", "(name x)", "(use or 1)", "(word 1)", "(rule 1)", "(run 1)",
                     "(where 1)", "(Do 1)", "(do1 1)", "(abcdefghi 1)", "(* do 1)")

    def test_brackets(self):
        self.refused(0, ")", "]", ")(", "] 1")
        self.refused(3, "[1 2", "[1 2)", "(list 1]", "(or 1]", "(do 1]")
        self.refused(2, "(list]", "[1)", "[(", "(list")
        self.refused(4, "(call 1 2", "[1 (do")

    def test_ill_written_integers(self):
        for token in ("00", "01", "-0", "-01", "-", "--1", "+1", "1-", "1.5", "1e3", "0x1", "1_0", "-00", "12a", "1,"):
            self.refused(0, token)
            self.refused(2, f"(list {token})")

    def test_ill_written_cells(self):
        for token in ("#", "#0", "#01", "#-1", "##1", "#a", "#1a", "1#", "#1#2", "#+1"):
            self.refused(0, token)
            self.refused(1, f"[{token}]")

    def test_ill_written_quotes_and_names(self):
        for token in ("'", "''a", "'1", "'A", "'a1", "'let", "'true", "'where", "'int", "'abcdefghi", "a'", "'a'", "\"a\"",
                      "A", "aB", "a1", "a_b", "abcdefghi", "let", "do", "list", "int", "use", "made", "word", "rule", "run", "where",
                      "*", "..", "..r", "!x", "=>", "=", ",", "True", "a.b", "{", "}", "<", ";"):
            self.refused(0, token)
            self.refused(2, f"(or {token} 1)")
        self.refused(2, "(or *(do 1))", "(list ..x)", "(list * (do 1))")

    def test_the_form_comes_ahead_of_all_else(self):
        # Each of these has a name, a use or an item ahead that is wrong, too.
        self.refused(3, "(two x", "(or (1)", "(for 1")
        self.refused(4, "(no y (", "(no y ()")
        self.refused(5, "(no y (do))", "(or y (do))")
        self.refused(6, "(for y (no) 01)", "[y (do 1)")
        self.refused(7, "[(do 1) y (")


class NoTrees(unittest.TestCase):

    def refused(self, path, *texts, book=BOOK, functions=()):
        for text in texts:
            with self.subTest(text):
                with self.assertRaises(NoTree) as caught:
                    read_tree(text, book, functions)
                self.assertEqual(caught.exception.path, path)

    def test_names(self):
        self.refused((), "x", "or", "g")
        self.refused((0,), "(do x)", "(let x x x)", "(try x x x)", "(call g)", "(list x)")
        self.refused((1,), "(fun () x)", "(fun (y) x)", "(let y 1 x)", "(seq 1 x)")
        self.refused((2,), "(or x)", "(for x x x)", "(if 1 2 x)")
        self.refused((3,), "(for x 1 y)", "(or 1 x)")
        self.refused((1, 3, 0), "(let z 1 (for x z (do y)))")
        read_tree("g", BOOK, ("g",))

    def test_unknown_words(self):
        self.refused((), "(no)", "(no 1)", "(f 1)", "(x)")
        self.refused((0,), "(do (no 1))")
        self.refused((), "(or 1)", "(for x 1 2)", book=EMPTY)

    def test_numbers_of_arguments(self):
        self.refused((), "(or)", "(or 1 2 3 4 5 6 7 8)", "(for)", "(for x)", "(for x 1)", "(for x 1 2 3)", "(all)", "(thunk 1 2)")
        self.refused((1,), "(let x 1 (for x))")

    def test_something_else_than_a_name_for_a_name_argument(self):
        self.refused((), "(for 1 2 3)", "(for (do x) 2 3)", "(for 'x 2 3)", "(for #1 2 3)", "(for [] 2 3)", "(for true 2 3)",
                     "(for (list) 1 2)", "(two 1 x 2 3)", "(two 1 2 x 3)", "(for (no) x y)")

    def test_one_name_for_two_name_arguments(self):
        self.refused((), "(two 1 x x 2)", "(two 1 x x x)", "(two y f f y)")
        read_tree("(two 1 x y 2)", BOOK)

    def test_items_of_made(self):
        self.refused((0,), "[(do 1)]", "[(list)]", "[(call f)]", "[(or 1)]", "[(or (fun () 1))]", "[(for x 1 2)]", "[(no)]",
                     "[(thunk)]", "[(thunk 1 2)]", "[x]", "[(let x 1 x)]", "[(if true 1 2)]", "[(raise 'a)]")
        self.refused((1,), "[(thunk 1) (or 1)]", "[1 (do 1) x]", "[[] (list)]")
        self.refused((1, 0), "[1 [(do 1)]]")
        self.refused((0, 1), "[(fun () x)]", "[(fun (y) (no))]")
        self.refused((0, 2), "[(thunk x)]", "[(all x 1)]")
        self.refused((0, 3, 0), "[(all 1 (do x))]")
        self.refused((1, 0, 1, 0), "(let y 1 [(fun (x) [y])])", "(let y 1 [(fun (x) [x])])", "(let y 1 [(fun () [(do 1)])])")

    def test_the_first_of_several_in_preorder(self):
        self.refused((0,), "(list x y)", "(list (no x) y)", "(seq x (no))")
        self.refused((0, 0), "(seq (do x) y)", "(seq (list x) (or))", "(list (do (no)) x (for 1 2 3))")
        self.refused((), "(no x)", "(for 1 x y)", "(or x y (no) 4 5 6 7 8)", "(two x y y z)")
        self.refused((0,), "[(or x) y]", "[(do x) y]", "[(no x)]", "[x (do 1)]")
        self.refused((0, 1), "[(fun () x) y]", "[(fun () (no x)) (do 1)]")
        self.refused((1, 0), "[1 [x] y]", "(seq 1 (do x))", "(let z 1 (do x))")
        self.refused((2, 0), "(or (do x) y)", "(for z (do z) y)")

    def test_paths_are_those_of_the_tree(self):
        # Name arguments have no item.
        self.refused((3,), "(for i 1 x)")
        self.refused((3,), "(two 1 i j x)")
        self.refused((2,), "(two x i j 1)")
        self.refused((1,), "(fun (i j) x)")
        self.refused((1,), "(try 1 i x)", "(let i 1 x)")


class Shown(unittest.TestCase):

    def shown(self, text, tree_text, book=BOOK, functions=()):
        with self.subTest(tree_text):
            tree = read_tree(tree_text, book, functions)
            self.assertEqual(show_tree(tree, book, functions), text)
            self.assertEqual(read_tree(text, book, functions), tree)

    def test_tokens_and_spaces(self):
        for text in ("0", "-12", "'red", "true", "false", "#7", "f", "[]", "(list)", "[1 [] [2 #1] f]", "(do (do 1))",
                     "(if true [] (list))", "(or 1 2)", "(fun () 1)", "(call f 1 (call ab f))", "(fun (a b c d) (list a b c d))",
                     "(let a 1 (seq a 2))", "(try (do 1) a (raise a))", "(for a 3 (plus a 1))", "(two 1 a b (list a b))",
                     "[(fun () 1) (thunk 2)]", "(call (fun (a) a) (list 1 [2]))", "(call f)"):
            self.shown(text, text)

    def test_a_name_is_chosen_by_the_binders_around_its_binder(self):
        self.shown("(let a (let a 1 a) (let b a (list a b)))", "(let x (let y 1 y) (let z x (list x z)))")
        self.shown("(fun (a b) (fun (c) (list a b c)))", "(fun (p q) (fun (r) (list p q r)))")
        self.shown("(list (fun (a) a) (fun (a) a))", "(list (fun (x) x) (fun (y) y))")
        self.shown("(try (try 1 a a) a (try a b b))", "(try (try 1 x x) y (try y z z))")
        self.shown("(fun (a) (let b 1 (try b c (list a b c))))", "(fun (x) (let y 1 (try y z (list x y z))))")

    def test_hidden_names_are_told_apart(self):
        self.shown("(let a 1 (let b a b))", "(let x 1 (let x x x))")
        self.shown("(fun (a b) b)", "(fun (x x) x)")

    def test_past_z(self):
        book = Book("")
        text = "x"
        for _ in range(70):
            text = f"(let x 1 {text})"
        shown = show_tree(read_tree(text, book), book)
        names = [piece.split(" ")[0] for piece in shown.split("(let ")[1:]]
        letters = "abcdefghijklmnopqrstuvwxyz"
        doubles = [one + two for one in "ab" for two in letters]
        self.assertEqual(names[:26], list(letters))
        self.assertEqual(names[26:], doubles[:44])
        self.assertEqual(read_tree(shown, book), read_tree(text, book))

    def test_past_reserved_words(self):
        book = Book("")
        text = "1"
        for _ in range(800):
            text = f"(let x 1 {text})"
        # Texts nest so deep only if they were returned; the names are what is looked at here.
        names = [piece.split(" ")[0] for piece in show_tree(read_tree(text, book), book).split("(let ")[1:]]
        for word, before, behind in (("do", "dn", "dp"), ("if", "ie", "ig")):
            self.assertNotIn(word, names)
            self.assertEqual(names[names.index(before) + 1], behind)
        self.assertEqual(names[names.index("zz") + 1:][:2], ["aaa", "aab"])
        self.assertEqual(names.index("zz"), 26 + 26 * 26 - 2 - 1)

    def test_past_functions_of_the_book_and_given_ones(self):
        book = Book("fun b () => 1\nfun d () => 1\nword c\nrule a => (do a)")
        self.shown("(fun (a c e g) (list a c e g b f))", "(fun (p q r s) (list p q r s b f))", book, ("f",))
        # Words are not left out.
        self.shown("(fun (a c) (c a))", "(fun (x y) (c x))", book)
        self.shown("(let a 1 (let c 2 (c c)))", "(let x 1 (let y 2 (c y)))", book)

    def test_uses_count_as_binders_around_all_their_expressions(self):
        self.shown("(for a (let b 1 b) (let b a (list a b)))", "(for x (let y 1 y) (let z x (list x z)))")
        self.shown("(fun (a) (for b (fun (c) (list a c)) (fun (c) (list a b c))))",
                   "(fun (x) (for y (fun (z) (list x z)) (fun (z) (list x y z))))")
        self.shown("(two (let c 1 c) a b (let c a (list b c)))", "(two (let x 1 x) p q (let x p (list q x)))")
        self.shown("(two (fun (c) (for d c d)) a b b)", "(two (fun (x) (for y x y)) p q q)")
        self.shown("(or (let a 1 a) (let a 2 a))", "(or (let x 1 x) (let y 2 y))")

    def test_binders_around_brackets_count_inside(self):
        self.shown("(let a 1 [(fun (b) b)])", "(let x 1 [(fun (y) y)])")
        self.shown("(fun (a b) [[(fun (c d) c)]])", "(fun (x y) [[(fun (z u) z)]])")
        self.shown("(for a [(fun (b) b)] [(thunk (let b 1 b))])", "(for x [(fun (y) y)] [(thunk (let z 1 z))])")

    def test_nested_texts(self):
        tree = ("int", (), (1,))
        for _ in range(300):
            tree = ("do", (), (tree,))
        text = show_tree(tree, BOOK)
        self.assertEqual(text, "(do " * 300 + "1" + ")" * 300)
        self.assertEqual(read_tree(text, BOOK), tree)
        text = "(fun (x) (let y (or x (for z x (try z u [(fun (v) v)]))) (list y)))"
        for _ in range(4):
            text = f"(fun (q) (for w {text} (two w e r (plus e (minus r q)))))"
        tree = read_tree(text, BOOK)
        self.assertEqual(read_tree(show_tree(tree, BOOK), BOOK), tree)

    def test_random_trees(self):
        for book in samples.books():
            for seed in range(40):
                tree = samples.Maker(book, seed, ("ff", "gg")).tree(5, has_cells=3)
                text = show_tree(tree, book, ("ff", "gg"))
                self.assertEqual(read_tree(text, book, ("ff", "gg")), tree)
                self.assertEqual(read_tree(text.replace(" ", "\n  "), book, ("gg", "ff")), tree)


if __name__ == "__main__":
    unittest.main()
