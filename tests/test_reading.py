"""[15], [16]: reading with its inks and binders, and turning back."""

import unittest

from saidanew.books import Book
from saidanew.reading import is_turned, reading, turned
from saidanew.texts import read_tree, show_tree
from saidanew.trees import bared, count, inked, is_tree, subtree, with_subtree
from tests import samples
from tests.changes import changed
from tests.model import Model
from tests.samples import FOR, OR


def integer(number):
    return ("int", (), (number,))


def name(index, *ink):
    return ("name", ink, (index,))


class Inks(unittest.TestCase):

    def read(self, book, text, tree):
        with self.subTest(text):
            whole = read_tree(text, book)
            self.assertEqual(reading(book, whole), tree)
            self.assertEqual(turned(book, tree), whole)

    def test_core_trees_stay(self):
        book = Book(OR)
        for text in ("1", "(list)", "(let x 1 (fun (y z) (try x u (list u y))))", "[1 [] (fun (x) x)]", "(call (fun () #2))"):
            tree = read_tree(text, book)
            self.assertEqual(reading(book, tree), tree)
            self.assertEqual(turned(book, tree), tree)

    def test_ink_that_is_there_stays(self):
        book = Book(OR)
        ink = (("other", 3, (1, 2)), ("or", 0, ()))
        tree = ("plus", ink, (("name", ink, (5,)), ("fun", ink[:1], (0, integer(1)))))
        self.assertEqual(reading(book, tree), tree)

    def test_a_template_writes_ink_on_all_but_literals(self):
        book = Book("word w\nrule a => (list 1 'red true f a (let x a x) (call (fun (y z) y) a))\nfun f () => 1")
        mark = lambda *path: ("w", 0, path)
        self.read(book, "(w 7)", ("list", (mark(),), (
            integer(1), ("quote", (), ("red",)), ("flag", (), (True,)), ("global", (), ("f",)), integer(7),
            ("let", (mark(5),), (integer(7), name(0, mark(5, 1)))),
            ("call", (mark(6),), (("fun", (mark(6, 0),), (2, name(1, mark(6, 0, 1)))), integer(7))))))

    def test_names_of_the_template_are_not_clear(self):
        book = Book("word w\nrule a => (do *(let x a x))")
        self.read(book, "(w 7)", ("do", (("w", 0, ()),), (("let", (), (integer(7), name(0, ("w", 0, (0, 1))))),)))

    def test_clear_nodes_have_the_ink_of_the_use(self):
        book = Book("word w\nrule a => (seq *(do a) (do *(do *(do a))))\nword v\nrule a => (do (w a))\nword u\nrule a => (do *(w a))")
        w = lambda *path: ("w", 0, path)
        self.read(book, "(w 1)", ("seq", (w(),), (("do", (), (integer(1),)),
                                                  ("do", (w(1),), (("do", (), (("do", (), (integer(1),)),)),)))))
        v = ("v", 0, (0,))
        self.read(book, "(v 1)", ("do", (("v", 0, ()),), (
            ("seq", (v, w()), (("do", (v,), (integer(1),)), ("do", (v, w(1)), (("do", (v,), (("do", (v,), (integer(1),)),)),)))),)))
        self.read(book, "(u 1)", ("do", (("u", 0, ()),), (
            ("seq", (w(),), (("do", (), (integer(1),)), ("do", (w(1),), (("do", (), (("do", (), (integer(1),)),)),)))),)))

    def test_uses_inside_of_templates_the_clear_one_of_or(self):
        book = Book(OR)
        one = ("or", 1, ())
        self.read(book, "(or 1 2)", ("let", (one,), (integer(1), ("if", (("or", 1, (1,)),), (
            name(0, ("or", 1, (1, 0))), name(0, ("or", 1, (1, 1))), ("do", (("or", 0, ()),), (integer(2),))))))) 
        book = Book(OR.replace("*", ""))
        inner = ("or", 1, (1, 2))
        self.read(book, "(or 1 2)", ("let", (one,), (integer(1), ("if", (("or", 1, (1,)),), (
            name(0, ("or", 1, (1, 0))), name(0, ("or", 1, (1, 1))), ("do", (inner, ("or", 0, ())), (integer(2),)))))))

    def test_a_use_that_bears_ink_itself(self):
        book = Book(OR)
        ink = (("a", 0, (3,)), ("b", 2, ()))
        tree = ("do", (), (("use", ink, ("or", 1, ("do", ink[:1], (integer(1),)))),))
        read = ("do", (), (("do", ink + (("or", 0, ()),), (("do", ink[:1], (integer(1),)),)),))
        self.assertEqual(reading(book, tree), read)
        self.assertEqual(turned(book, read), tree)

    def test_marks_pile_up_from_outside_in(self):
        book = Book("word u\nrule a => (do a)\nword v\nrule a => (not (u a))\nword w\nrule a b => (get (seq b (v a)))")
        read = reading(book, read_tree("(w 1 (v 2))", book))
        self.assertEqual(list(inked(read)), [
            ((), (("w", 0, ()),)), ((0,), (("w", 0, (0,)),)),
            ((0, 0), (("v", 0, ()),)), ((0, 0, 0), (("v", 0, (0,)), ("u", 0, ()))),
            ((0, 1), (("w", 0, (0, 1)), ("v", 0, ()))), ((0, 1, 0), (("w", 0, (0, 1)), ("v", 0, (0,)), ("u", 0, ())))])

    def test_paths_take_name_arguments_for_no_items(self):
        book = Book(FOR + "\nword w\nrule !x a b => (do *(for x a (do b)))")
        read = reading(book, read_tree("(w y 1 y)", book))
        self.assertEqual(read, ("do", (("w", 0, ()),), (("call", (("for", 0, ()),), (
            ("fun", (("for", 0, (0,)),), (1, ("do", (("w", 0, (0, 3)),), (name(0),)))), integer(1))),)))
        book = Book(FOR + "\nword w\nrule !x a b => (do (for x (do a) b))")
        read = reading(book, read_tree("(w y 1 y)", book))
        self.assertEqual([ink for _, ink in inked(read)], [
            (("w", 0, ()),), (("w", 0, (0,)), ("for", 0, ())), (("w", 0, (0,)), ("for", 0, (0,))), (("w", 0, (0, 2)),)])

    def test_items_of_made(self):
        book = Book("word thunk\nrule a => (fun (x) a)\n" + OR)
        self.read(book, "(list [1 (thunk 2) [(thunk (or 3))]])", ("list", (), (("made", (), (
            integer(1), ("fun", (("thunk", 0, ()),), (1, integer(2))),
            ("made", (), (("fun", (("thunk", 0, ()),), (1, ("do", (("or", 0, ()),), (integer(3),)))),)))),)))
        # Also inside of an argument.
        self.read(book, "(or [(thunk 2)])", ("do", (("or", 0, ()),), (
            ("made", (), (("fun", (("thunk", 0, ()),), (1, integer(2))),)),)))


class Names(unittest.TestCase):

    def same_as(self, book, text, core):
        """The reading of a text is that of a core text, inks aside."""
        with self.subTest(text):
            tree = read_tree(text, book)
            read = reading(book, tree)
            self.assertEqual(bared(read), read_tree(core, book))
            self.assertEqual(turned(book, read), tree)
            self.assertEqual(read, Model(book).reading(tree))

    def test_names_of_name_arguments(self):
        book = Book(FOR)
        self.same_as(book, "(for y 3 (plus y 1))", "(call (fun (y) (plus y 1)) 3)")
        self.same_as(book, "(fun (x) (for y x (list x y)))", "(fun (x) (call (fun (y) (list x y)) x))")
        self.same_as(book, "(for y 1 (for y y (for z y (list y z))))",
                     "(call (fun (y) (call (fun (y) (call (fun (z) (list y z)) y)) y)) 1)")

    def test_own_binders_do_not_catch_names_of_arguments(self):
        book = Book(OR)
        self.same_as(book, "(fun (t) (or t t t))",
                     "(fun (t) (let a t (if a a (let b t (if b b (do t))))))")
        self.same_as(book, "(fun (t) (or 1 (fun (u) (list t u))))",
                     "(fun (t) (let a 1 (if a a (do (fun (u) (list t u))))))")
        book = Book("word w\nrule a b => (fun (x) (let y a (try b z (list a b x y z))))")
        self.same_as(book, "(fun (x y) (let z 1 (w (list x z) (fun (q) (plus q y)))))",
                     "(fun (x y) (let z 1 (fun (c) (let d (list x z) (try (fun (q) (plus q y)) e "
                     "(list (list x z) (fun (q) (plus q y)) c d e))))))")

    def test_own_and_other_binders_mixed(self):
        book = Book("word w\nrule !x a !y b => (let x a (fun (u y) (let v x (list u y (seq v b)))))")
        self.same_as(book, "(fun (f) (w p f q (list f p q)))",
                     "(fun (f) (let p f (fun (u q) (let v p (list u q (seq v (list f p q)))))))")

    def test_name_arguments_in_another_order_than_their_binders(self):
        book = Book("word two\nrule !x !y a => (fun (y z x) (list a z))")
        self.same_as(book, "(two p q (list p q))", "(fun (q r p) (list (list p q) r))")
        self.same_as(book, "(fun (f) (two p q (list q f p)))", "(fun (f) (fun (q r p) (list (list q f p) r)))")

    def test_an_argument_in_no_scope_and_one_in_some(self):
        book = Book("word two\nrule !x a !y b c => (list (fun (x) a) (fun (y) b) c)")
        self.same_as(book, "(fun (f) (two p (list p f) q (list q f) f))",
                     "(fun (f) (list (fun (p) (list p f)) (fun (q) (list q f)) f))")

    def test_names_through_uses_of_templates(self):
        book = Book(FOR + "\nword v\nrule !x a b => (do (for x a *(for t b (list t x))))\n"
                    "word w\nrule !p !q a b c => (list (v p a (fun (q) b)) c)")
        self.same_as(book, "(v y 1 y)", "(do (call (fun (y) (call (fun (t) (list t y)) y)) 1))")
        self.same_as(book, "(fun (t x) (w i j t (list t x i j) (list x t)))",
                     "(fun (t x) (list (do (call (fun (i) (call (fun (s) (list s i)) (fun (j) (list t x i j)))) t)) (list x t)))")

    def test_functions_that_a_template_names(self):
        book = Book("word w\nrule a => (call f a)\nfun f (x) => x")
        # The binder of the program does not catch the function of the template.
        tree = read_tree("(fun (f) (w f))", book)
        self.assertEqual(bared(reading(book, tree)), ("fun", (), (1, ("call", (), (("global", (), ("f",)), name(0))))))

    def test_one_argument_in_several_places(self):
        book = Book("word w\nrule a => (list a (fun (x) (list a (let y 1 a))))")
        self.same_as(book, "(fun (x) (w (fun (z) (plus z x))))",
                     "(fun (x) (list (fun (z) (plus z x)) (fun (b) (list (fun (z) (plus z x)) (let c 1 (fun (z) (plus z x)))))))")

    def test_trees_that_are_not_closed(self):
        book = Book(OR + "\n" + FOR)
        tree = ("use", (), ("for", 3, name(2), ("use", (), ("or", 2, name(0), name(5)))))
        read = reading(book, tree)
        self.assertEqual(bared(read), ("call", (), (
            ("fun", (), (1, ("let", (), (name(0), ("if", (), (name(0), name(0), ("do", (), (name(6),)))))))), name(2))))
        self.assertEqual(turned(book, read), tree)
        self.assertEqual(read, Model(book).reading(tree, 5))


class Rests(unittest.TestCase):

    def test_every_length(self):
        book = Book("word w\nrule a ..r => (list 1 a *(call f ..r))\nword all\nrule ..r => (list ..r)\n"
                    "word v\nrule a ..r => (let t a (list t (all ..r)))\nfun f () => 1")
        for length in range(7):
            more = tuple(integer(10 + at) for at in range(length))
            text = "".join(f" {10 + at}" for at in range(length))
            tree = read_tree(f"(w 7{text})", book)
            self.assertEqual(tree, ("use", (), ("w", length + 1, integer(7)) + more))
            read = ("list", (("w", 0, ()),), (integer(1), integer(7), ("call", (), (("global", (), ("f",)),) + more)))
            self.assertEqual(reading(book, tree), read)
            self.assertEqual(turned(book, read), tree)
            tree = read_tree(f"(v 7{text})", book)
            read = ("let", (("v", 0, ()),), (integer(7), ("list", (("v", 0, (1,)),), (
                name(0, ("v", 0, (1, 0))), ("list", (("v", 0, (1, 1)), ("all", 0, ())), more)))))
            self.assertEqual(reading(book, tree), read)
            self.assertEqual(turned(book, read), tree)

    def test_names_in_a_rest_behind_own_binders(self):
        book = Book(OR)
        tree = read_tree("(fun (x y) (or x y (list x y) (fun (z) (list x y z))))", book)
        read = reading(book, tree)
        self.assertEqual(read, Model(book).reading(tree))
        self.assertEqual(show_tree(turned(book, read), book), "(fun (a b) (or a b (list a b) (fun (c) (list a b c))))")

    def test_a_longer_and_a_shorter_rest(self):
        book = Book("word w\nrule a => (do a)\nrule a ..r => (list a ..r)")
        for many in range(1, 12):
            read = ("list", (("w", 1, ()),), tuple(integer(at) for at in range(many)))
            fits = 2 <= many <= 7
            back = ("use", (), ("w", many) + read[2]) if fits else read
            self.assertEqual(turned(book, read), back)
        self.assertEqual(turned(book, ("list", (("w", 1, ()),), ())), ("list", (("w", 1, ()),), ()))

    def test_a_use_with_the_rest(self):
        book = Book("word all\nrule ..r => (list ..r)\nrule a b c d e f g => (list a b c d e f g)\n"
                    "word w\nrule a ..r => (seq a (all ..r))")
        inner = ("w", 0, (1,))
        for use, n in ((("all", 2, integer(1), integer(2)), 3), (("all", 0), 1), (("all", 3, integer(1), integer(2)), None),
                       (("all", 1, integer(1), integer(2)), None)):
            tree = ("seq", (("w", 0, ()),), (integer(0), ("use", (inner,), use)))
            back = tree if n is None else ("use", (), ("w", n, integer(0)) + use[2:])
            self.assertEqual(turned(book, tree), back)


class TurnedBack(unittest.TestCase):

    BOOK = Book(OR + "\n" + FOR + """
word w
rule a b => (let x (list a 1 'red) (if (seq x b) *(do a) (call f (fun (y z) (plus y b)))))
fun f (x) => x
fun g (x) => x""")

    def stays(self, tree, path=()):
        """The node at a path of a core tree does not become a use."""
        back = turned(self.BOOK, tree)
        self.assertNotEqual(subtree(back, path)[0], "use")
        self.assertEqual(back, Model(self.BOOK).turned(tree))
        return back

    def setUp(self):
        self.tree = read_tree("(w (or 1 2) (for i 3 i))", self.BOOK)
        self.read = reading(self.BOOK, self.tree)
        self.assertEqual(turned(self.BOOK, self.read), self.tree)

    def with_node(self, path, head=None, ink=None, items=None):
        old = subtree(self.read, path)
        new = (old[0] if head is None else head, old[1] if ink is None else ink, old[2] if items is None else items)
        self.assertNotEqual(old, new)
        return with_subtree(self.read, path, new)

    def test_another_head(self):
        self.stays(self.with_node((), "try"))
        self.stays(self.with_node((0,), "call"))
        self.stays(self.with_node((1, 0), "plus"))
        self.stays(self.with_node((1, 1), "not"))
        self.stays(self.with_node((0, 1), "quote", items=("a",)))
        self.stays(self.with_node((1, 2, 0), "quote", items=("f",)))

    def test_another_mark(self):
        for path in ((), (0,), (1,), (1, 0), (1, 0, 0), (1, 2), (1, 2, 1), (1, 2, 1, 1), (1, 2, 1, 1, 0)):
            for ink in ((), (("w", 0, path + (0,)),), (("w", 1, path),), (("or", 0, path),), (("w", 0, path),) * 2,
                        (("w", 0, (1,)), ("w", 0, path))):
                if path or ink != (("w", 0, (1,)), ("w", 0, ())):
                    self.stays(self.with_node(path, ink=ink))
        self.stays(self.with_node((1, 1), ink=(("w", 0, (1, 1)),)))

    def test_ink_ahead_of_the_root_s_mark_is_expected_everywhere(self):
        more = (("q", 7, (1,)),)
        self.stays(self.with_node((), ink=more + (("w", 0, ()),)))

    def test_another_number_of_items(self):
        items = subtree(self.read, (0,))[2]
        self.stays(self.with_node((0,), items=items + (integer(1),)))
        self.stays(self.with_node((0,), items=items[:2]))
        items = subtree(self.read, (1, 2))[2]
        self.stays(self.with_node((1, 2), items=items + (integer(1),)))
        self.stays(self.with_node((1, 2), items=items[:1]))

    def test_another_item_that_is_no_tree(self):
        self.stays(self.with_node((0, 1), items=(2,)))
        self.stays(self.with_node((0, 2), items=("blue",)))
        self.stays(self.with_node((1, 2, 0), items=("g",)))
        fun = subtree(self.read, (1, 2, 1))
        self.stays(self.with_node((1, 2, 1), items=(3, fun[2][1])))

    def test_one_is_not_true(self):
        book = Book("word w\nrule a => (list a 1 true)")
        ink = (("w", 0, ()),)
        right = ("list", ink, (integer(0), integer(1), ("flag", (), (True,))))
        self.assertEqual(turned(book, right)[0], "use")
        wrong = ("list", ink, (integer(0), ("flag", (), (True,)), ("flag", (), (True,))))
        self.assertEqual(turned(book, wrong), wrong)

    def test_a_name_that_refers_to_another_binder(self):
        self.stays(self.with_node((1, 0, 0), "name", items=(1,)))
        self.stays(self.with_node((1, 2, 1, 1, 0), items=(0,)))
        self.stays(self.with_node((1, 2, 1, 1, 0), items=(2,)))

    def test_one_of_two_equal_places(self):
        # `a` stands at (0, 0) and (1, 1, 0), `b` at (1, 0, 1) and (1, 2, 1, 1, 1).
        for path in ((0, 0), (1, 1, 0), (1, 0, 1), (1, 2, 1, 1, 1)):
            back = self.stays(with_subtree(self.read, path, integer(9)))
            self.assertEqual(subtree(back, path), integer(9))
        both = with_subtree(with_subtree(self.read, (0, 0), integer(9)), (1, 1, 0), integer(9))
        self.assertEqual(turned(self.BOOK, both), read_tree("(w 9 (for i 3 i))", self.BOOK))

    def test_places_with_other_inks(self):
        tree = reading(self.BOOK, read_tree("(w (do 1) 2)", self.BOOK))
        for path in ((0, 0), (1, 1, 0)):
            self.stays(with_subtree(tree, path, ("do", (("z", 0, (1,)),), (integer(1),))))

    def test_a_name_that_refers_to_an_own_binder(self):
        # At the second place of `b` there are, from the inside, `z`, `y` and `x` of the template.
        tree = ("fun", (), (1, reading(self.BOOK, ("use", (), ("w", 2, integer(1), name(0))))))
        self.assertEqual(subtree(tree, (1, 1, 2, 1, 1, 1)), name(3))
        for index in (0, 1, 2):
            self.stays(with_subtree(tree, (1, 1, 2, 1, 1, 1), name(index)), (1,))
        self.assertEqual(subtree(tree, (1, 1, 0, 1)), name(1))
        self.stays(with_subtree(tree, (1, 1, 0, 1), name(0)), (1,))

    def test_a_number_of_arguments_that_another_rule_takes(self):
        book = Book("word w\nrule a => (do a)\nrule a ..r => (list a ..r)\nrule a b => (seq a b)")
        for tree in (("list", (("w", 1, ()),), (integer(1),)), ("seq", (("w", 2, ()),), (integer(1), integer(2)))):
            self.assertEqual(turned(book, tree), tree)
        tree = ("list", (("w", 1, ()),), (integer(1), integer(2)))
        self.assertEqual(turned(book, tree), ("use", (), ("w", 2, integer(1), integer(2))))

    def test_words_and_rules_that_the_book_does_not_have(self):
        for mark in (("zz", 0, ()), ("f", 0, ()), ("or", 2, ()), ("for", 1, ()), ("w", 7, ())):
            for tree in (("do", (mark,), (integer(1),)), ("list", (mark,), ())):
                self.assertEqual(turned(self.BOOK, tree), tree)

    def test_inside_is_turned_back_though_outside_is_not(self):
        tree = with_subtree(self.read, (0,), ("do", (), (subtree(self.read, (0, 0)),)))
        back = turned(self.BOOK, tree)
        self.assertEqual(subtree(back, (0, 0)), read_tree("(or 1 2)", self.BOOK))
        self.assertEqual(subtree(back, (1, 0, 1)), read_tree("(for i 3 i)", self.BOOK))
        self.assertEqual([path for path, _ in inked(back)], [(), (1,), (1, 0), (1, 0, 0), (1, 2), (1, 2, 1), (1, 2, 1, 1), (1, 2, 1, 1, 0)])

    def test_a_mark_of_a_root_left_below(self):
        # The use has ink that ends at the root of a template, but no template has a use as its root.
        ink = (("or", 0, ()),)
        tree = ("use", ink, ("or", 1, integer(1)))
        self.assertEqual(turned(self.BOOK, tree), tree)
        read = reading(self.BOOK, tree)
        self.assertEqual(read, ("do", ink * 2, (integer(1),)))
        self.assertEqual(turned(self.BOOK, read), tree)

    def test_any_tree(self):
        for tree in (("use", (), ("zz", 3, integer(1))), ("use", (), ("for", 3)), ("use", (), ("or", 0)), name(4),
                     ("use", (), ("for", 5, name(1), name(2), name(3))), ("made", (), (("use", (), ("zz", 0)),))):
            self.assertTrue(is_tree(tree))
            self.assertEqual(turned(self.BOOK, tree), tree)
            outer = reading(self.BOOK, ("use", (), ("or", 1, integer(1))))
            self.assertEqual(turned(self.BOOK, with_subtree(outer, (0,), tree)), ("use", (), ("or", 1, tree)))

    def test_items_of_made(self):
        book = Book("word thunk\nrule a => (fun () a)")
        tree = ("do", (), (("made", (), (("fun", (("thunk", 0, ()),), (0, integer(1))), integer(2))),))
        self.assertEqual(turned(book, tree), ("do", (), (("made", (), (("use", (), ("thunk", 1, integer(1))), integer(2))),)))

    def test_is_turned(self):
        for tree in (integer(1), ("list", (), ()), ("made", (), (("fun", (), (0, integer(1))),)), self.tree):
            self.assertIs(is_turned(tree), True)
            self.assertIs(is_turned(tree=tree), True)
        mark = (("or", 0, ()),)
        for tree in (("list", mark, ()), ("do", (), (("list", mark, ()),)), ("made", (), (("fun", mark, (0, integer(1))),)),
                     ("use", (), ("or", 1, name(0, mark))), ("fun", (), (1, ("name", mark, (0,)))), self.read):
            self.assertIs(is_turned(tree), False)

    def test_by_name(self):
        self.assertEqual(reading(book=self.BOOK, tree=self.tree), self.read)
        self.assertEqual(turned(tree=self.read, book=self.BOOK), self.tree)


class AgainstTheModel(unittest.TestCase):

    def test_readings_and_back(self):
        for book in samples.books():
            model = Model(book)
            for seed in range(30):
                maker = samples.Maker(book, seed)
                free = seed % 3
                tree = maker.tree(2 + seed % 4, free)
                read = reading(book, tree)
                if count(read) <= 2600:
                    self.assertTrue(is_tree(read))
                    self.assertEqual(read, model.reading(tree, free))
                    self.assertEqual(turned(book, read), tree)

    def test_changed_readings(self):
        stayed = 0
        for book in samples.books():
            model = Model(book)
            for seed in range(60):
                maker = samples.Maker(book, 1000 + seed)
                tree = reading(book, maker.tree(2 + seed % 4))
                if count(tree) <= 400:
                    tree = changed(tree, maker)
                    back = turned(book, tree)
                    self.assertEqual(back, model.turned(tree))
                    stayed += not is_turned(back)
                    # What a text reads as is turned back whole, and only that.
                    if is_turned(back):
                        self.assertEqual(reading(book, read_tree(show_tree(back, book), book)), tree)
        self.assertGreater(stayed, 30)


if __name__ == "__main__":
    unittest.main()
