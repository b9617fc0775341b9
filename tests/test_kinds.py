"""[28], [29], [30]: kinds; and [4] as far as it speaks of them."""

import random
import time
import unittest

from saidanew.books import Book
from saidanew.errors import NoKind, SaidError
from saidanew.kinds import kind_of, kind_of_function, kind_of_state, rule_kind
from saidanew.programs import Program
from saidanew.reading import reading
from saidanew.stepper import Stepper
from saidanew.steps import outcome, settled, state_of
from saidanew.texts import read_tree, show_tree
from saidanew.trees import bared, count, with_subtree
from tests import programs, samples
from tests.kinding import Fitting, Kinds, preorder
from tests.samples import FOR, OR
from tests.test_stepper import work_path

BOOK = Book(OR + "\n" + FOR + """
word both
rule a b => (list (do a) b)
word twice
rule a => (seq a a)
word dup
rule a => (list (twice a) (twice a))
word under
rule !x a => (fun (x) (twice a))
word many
rule !x a => (list *(dup (under x a)))
word lst
rule ..r => (do (list ..r))""")
PROGRAM = Program(BOOK, "fun id (x) => x\nrun 1")


def kind(text, program=PROGRAM):
    return kind_of(program, read_tree(text, program.book, program.functions))


class Asserts(unittest.TestCase):

    def kinds(self, *pairs, program=PROGRAM):
        for text, wanted in pairs:
            with self.subTest(text):
                self.assertEqual(kind(text, program), wanted)
                core = reading(program.book, read_tree(text, program.book, program.functions))
                self.assertEqual(kind_of(program, core), wanted)

    def misfits(self, *pairs, program=PROGRAM):
        for text, path in pairs:
            with self.subTest(text):
                with self.assertRaises(NoKind) as caught:
                    kind(text, program)
                self.assertEqual(caught.exception.path, path)
                core = reading(program.book, read_tree(text, program.book, program.functions))
                self.assertRaises(NoKind, lambda: kind_of(program, core))


class Heads(Asserts):

    def test_literals(self):
        self.kinds(("12", "num"), ("'red", "word"), ("true", "flag"), ("[]", "list a"), ("[1 2]", "list num"), ("id", "fun (a) a"),
                   ("[[] [1]]", "list (list num)"), ("[(fun (x) x) id]", "list (fun (a) a)"), ("[(fun () 1)]", "list (fun () num)"))

    def test_each_head(self):
        self.kinds(
            ("(fun () 1)", "fun () num"), ("(fun (x) x)", "fun (a) a"), ("(fun (x y z w) (list y w))", "fun (a b c b) (list b)"),
            ("(call (fun (x y) y) 1 true)", "flag"), ("(fun (f) (call f 1 true))", "fun ((fun (num flag) a)) a"),
            ("(fun (f) (call f))", "fun ((fun () a)) a"), ("(let x 1 (list x))", "list num"), ("(let x 'a 1)", "num"),
            ("(fun (x) (let y x y))", "fun (a) a"), ("(fun (a b c) (if a b c))", "fun (flag a a) a"), ("(do 'a)", "word"),
            ("(say [1])", "list num"), ("(fun (x y) (seq x y))", "fun (a b) b"), ("(fun (x y) (plus x y))", "fun (num num) num"),
            ("(fun (x y) (minus x y))", "fun (num num) num"), ("(fun (x y) (times x y))", "fun (num num) num"),
            ("(fun (x y) (less x y))", "fun (num num) flag"), ("(fun (x y) (same x y))", "fun (a a) flag"),
            ("(fun (x) (not x))", "fun (flag) flag"), ("(list)", "list a"), ("(fun (x y) (list x y 1))", "fun (num num) (list num)"),
            ("(fun (x) (first x))", "fun ((list a)) a"), ("(fun (x) (rest x))", "fun ((list a)) (list a)"),
            ("(fun (x) (none x))", "fun ((list a)) flag"), ("(fun (x y) (put x y))", "fun (a (list a)) (list a)"),
            ("(fun (x) (cell x))", "fun (a) (cell a)"), ("(fun (x) (get x))", "fun ((cell a)) a"),
            ("(fun (x y) (set x y))", "fun ((cell a) a) a"), ("(fun (x) (raise x))", "fun (word) a"), ("(raise 'a)", "a"),
            ("(fun (x) (try x e e))", "fun (word) word"), ("(fun (x) (try x e (raise e)))", "fun (a) a"))

    def test_what_does_not_fit(self):
        self.misfits(
            ("(call 1)", (0,)), ("(call (fun (x) x))", (0,)), ("(call (fun () 1) 2)", (0,)), ("(let x 1 (not x))", (1, 0)),
            ("(if 1 2 3)", (0,)), ("(if true 2 'a)", (2,)), ("(plus 'a 1)", (0,)), ("(plus 1 true)", (1,)), ("(minus 1 [])", (1,)),
            ("(times (list) 1)", (0,)), ("(less 1 'a)", (1,)), ("(same 1 'a)", (1,)), ("(not 1)", (0,)), ("(list 1 true)", (1,)),
            ("(list 1 2 'a true)", (2,)), ("[1 true]", (1,)), ("(first 1)", (0,)), ("(rest true)", (0,)), ("(none 'a)", (0,)),
            ("(put 1 ['a])", (1, 0)), ("(put 1 2)", (1,)), ("(get 1)", (0,)), ("(set (cell 1) 'a)", (1,)), ("(raise 1)", (0,)),
            ("(try 1 e e)", (1,)), ("(do (plus 1 (say 'a)))", (0, 1, 0)), ("(fun (x) (list x (not x) (plus x 1)))", (1, 2)),
            ("(plus (do (seq 1 'a)) 2)", (0, 0, 1)))

    def test_a_kind_is_finite(self):
        self.misfits(("(fun (x) (call x x))", (1, 1)), ("(fun (x) (list x (list x)))", (1, 1, 0)), ("(fun (x) (put x x))", (1, 1)),
                     ("(fun (x) (set x x))", (1, 1)), ("(fun (x y) (seq (same x (list y)) (same y (cell x))))", (1, 1, 1, 0)),
                     ("(fun (x) (if true x (fun () x)))", (1, 2, 1)))

    def test_the_first_node_is_told_whatever_is_wrong_behind(self):
        self.misfits(("(list (not 1) (not 2))", (0, 0)), ("(seq (list 1 (not 'a)) (call 1))", (0, 1)), ("(list (plus 1 'a) 'a)", (0, 1)),
                     ("(if 1 (plus 'a 'b) (not 1))", (0,)), ("[(fun () (not 1)) 5 (fun () (not 2))]", (0, 1, 0)))

    def test_each_binder_has_one_kind(self):
        self.misfits(("(let f (fun (x) x) (seq (call f 1) (call f true)))", (1, 1, 1)),
                     ("(call (fun (f) (seq (call f 1) (call f true))) (fun (x) x))", (0, 1, 1, 1)))
        self.kinds(("(seq (call id 1) (call id true))", "flag"))

    def test_names_that_hide_one_another(self):
        self.kinds(("(fun (x) (let x (not x) (list x)))", "fun (flag) (list flag)"), ("(fun (x x) x)", "fun (a b) b"),
                   ("(let x 1 (list (let x 'a 2) x (try x x 3)))", "list num"), ("(let x 1 (fun (y) (for x y x)))", "fun (a) a"))
        self.misfits(("(let x 1 (let x 'a (plus x 1)))", (1, 1, 0)),)


class Written(Asserts):

    def test_unknowns_in_order_of_appearance(self):
        self.kinds(("(fun (x y z) (list z x))", "fun (a b a) (list a)"), ("(fun (x y) (fun (z) (call y z)))", "fun (a (fun (b) c)) (fun (b) c)"),
                   ("(fun (f) (list (cell (call f [])) (cell 'a)))", "fun ((fun ((list a)) word)) (list (cell word))"),
                   ("(fun (x) (fun () (call x (cell 'a))))", "fun ((fun ((cell word)) a)) (fun () a)"))

    def test_past_z(self):
        text = "1"
        for at in range(8):
            text = f"(fun (x y z w) (seq w {text}))"
        names = [*"abcdefghijklmnopqrstuvwxyz", "aa", "ab", "ac", "ad", "ae", "af"]
        wanted = "num"
        for at in reversed(range(8)):
            inner = wanted if wanted == "num" else f"({wanted})"
            wanted = f"fun ({' '.join(names[4 * at:4 * at + 4])}) {inner}"
        self.assertEqual(kind(text), wanted)

    def test_brackets(self):
        self.kinds(("[[1]]", "list (list num)"), ("(fun (x) (seq (get (cell x)) (list (cell x))))", "fun (a) (list (cell a))"),
                   ("(fun (c) (fun () (call (get c))))", "fun ((cell (fun () a))) (fun () a)"), ("(list (fun () []))", "list (fun () (list a))"))

    def test_long_and_deep_kinds(self):
        text = "[]"
        for _ in range(45):
            text = f"(list {text})"
        tree = read_tree(text, BOOK)
        for _ in range(50):
            tree = ("list", (), (tree,))
        self.assertEqual(kind_of(PROGRAM, tree), "list (" * 95 + "list a" + ")" * 95)


class Uses(Asserts):

    def test_by_their_rules(self):
        self.kinds(("(or 1)", "num"), ("(or true false)", "flag"), ("(or 'a)", "word"),
                   ("(for x 3 (list x))", "list num"), ("(fun (y) (for x y (plus x 1)))", "fun (num) num"),
                   ("(twice (list))", "list a"), ("(lst)", "list a"), ("(lst 1 2)", "list num"), ("(both [] (list 1))", "list (list num)"))
        self.misfits(("(or 1 2)", (2,)), ("(or true 1 false)", (3,)), ("(lst 1 2 'a)", (4,)), ("(for x 3 (not x))", (3, 0)),
                     ("(not (or 1))", (0, 2)), ("(not (for x 1 2))", (0, 3)), ("(not (lst))", (0,)), ("(plus 1 (lst))", (1,)),
                     ("(for x true (for y x (plus y 1)))", (3, 3, 0)), ("(both 1 (or true 'a))", (3,)))

    def test_copies_of_an_argument_have_kinds_of_their_own(self):
        # In each copy the list is another one, but names from outside have one kind.
        self.kinds(("(both (twice []) [1])", "list (list num)"), ("(dup (fun (x) x))", "list (fun (a) a)"))
        program = Program(Book("word two\nrule a => (seq (call a 1) (call a true))"), "run 1")
        self.kinds(("(two (fun (x) x))", "flag"), program=program)
        self.misfits(("(let f (fun (x) x) (two f))", (1, 2)), ("(two (fun (x) (not x)))", (2, 1, 0)), program=program)

    def test_in_several_copies_a_node_makes_its_demands_once_for_each(self):
        book = Book("word num\nrule a => (list (plus a 1) 1)\nword mix\nrule a => (seq (plus 1 (first a)) (not (first (rest a))))")
        program = Program(book, "run 1")
        self.kinds(("(mix (list))", "flag"), ("(mix (list (raise 'a)))", "flag"), ("(mix [])", "flag"), program=program)
        self.misfits(("(mix (list 1))", (2, 0)), ("(mix [1])", (2, 0)), ("(fun (x) (mix (list x)))", (1, 2, 0)), ("(mix (list (list) 1))", (2, 0)),
                     ("(fun (x) (mix (put x (list 1))))", (1, 2, 0)), program=program)

    def test_arguments_that_are_bound_together_by_what_is_between_them(self):
        book = Book("word two\nrule a b c => (seq (same a b) (same a c))\nword four\nrule a b c => (list (two a b c) (two b c a) (two c a b))\n"
                    "word lone\nrule a b => (seq (seq (list a) (list b)) 1)\nword pairs\nrule a b => (seq (seq (call a b) 1) (seq (call a b) 1))")
        program = Program(book, "run 1")
        self.kinds(("(two 1 2 3)", "flag"), ("(two [] [1] ['a])", "flag"), ("(four 1 2 3)", "list flag"), ("(four [] [] [])", "list flag"),
                   ("(lone 1 'a)", "num"), ("(lone 1 (lone 'a true))", "num"), ("(pairs (fun (x) x) 1)", "num"), program=program)
        self.misfits(("(two 1 2 'a)", (4,)), ("(two 1 'a 1)", (3,)), ("(four 1 1 'a)", (4,)), ("(four [] [1] 'a)", (4,)), ("(pairs (fun (x) (not x)) 1)", (3,)),
                     ("(fun (x) (two x (list x) 1))", (1, 3, 0)), program=program)
        self.misfits(("(fun (x y) (seq (two x 1 y) (list x 'a)))", (1, 1, 1)), program=program)

    def test_in_made_lists(self):
        book = Book("word thunk\nrule a => (fun () a)\nword bad\nrule a => (fun () (plus a true))\nword neg\nrule a => (fun (x) (list a (minus 0 x)))")
        program = Program(book, "run 1")
        self.kinds(("[(thunk 1) (thunk 2)]", "list (fun () num)"), ("[(neg 1)]", "list (fun (num) (list num))"), program=program)
        self.misfits(("[(thunk 1) (thunk true)]", (1, 2)), ("[(thunk 1) (neg 1)]", (1,)), ("[(bad 1)]", (0,)), ("[(fun () (not 1))]", (0, 1, 0)),
                     program=program)

    def test_a_template_that_does_not_fit(self):
        book = Book("word bad\nrule a => (plus true a)\nword worse\nrule a => (do (bad a))\nword good\nrule a => (fun (x) (call a x))")
        program = Program(book, "run 1")
        self.misfits(("(bad 1)", ()), ("(list 1 (worse (not 1)))", (1,)), ("(list (not 1) (bad 1))", (0, 0)), program=program)
        self.kinds(("(good (fun (y) y))", "fun (a) a"), program=program)


class Functions(Asserts):

    def functions(self, rows, book="", **wanted):
        program = Program(Book(book), rows + "\nrun 1")
        for name, text in wanted.items():
            name = name.strip("_")
            with self.subTest(name):
                if text is None:
                    with self.assertRaises(NoKind) as caught:
                        kind_of_function(program, name)
                    self.assertEqual(caught.exception.path, ())
                else:
                    self.assertEqual(kind_of_function(program, name), text)
                self.assertEqual(Kinds(program).of_function(name), text)
        with self.assertRaises(KeyError):
            kind_of_function(program, "nobody")
        return program

    def test_parameters(self):
        self.functions("fun a () => 1\nfun b (x) => x\nfun c (x y) => (seq x y)\nfun d (x y z) => (list x z)\nfun e (x y z w) => (call x y z w)",
                       a="fun () num", b="fun (a) a", c="fun (a b) b", d="fun (a b a) (list a)", e="fun ((fun (a b c) d) a b c) d")

    def test_those_that_call_one_another(self):
        program = self.functions(
            "fun even (n) => (if (less n 1) true (call odd (minus n 1)))\nfun odd (n) => (if (less n 1) false (call even n))\n"
            "fun len (x) => (if (none x) 0 (plus 1 (call len (rest x))))\nfun uses () => (seq (call len [1]) (call len [true]))",
            even="fun (num) flag", odd="fun (num) flag", len="fun ((list a)) num", uses="fun () num")
        self.kinds(("(seq (call len [1]) (call len ['a]))", "num"), ("(list odd even)", "list (fun (num) flag)"), program=program)

    def test_one_kind_inside_of_a_group_and_several_elsewhere(self):
        self.functions("fun f (x y) => (if (same x x) 1 (call f y x))\nfun g (x) => (seq (call f 1 2) (call f 'a 'b))",
                       f="fun (a a) num", g="fun (a) num")
        self.functions("fun f (x) => (seq (call g 1) x)\nfun g (x) => (seq (call f true) x)", f="fun (flag) flag", g="fun (num) num")
        self.functions("fun f (x) => (seq (call g 1) (call g x))\nfun g (x) => (call f 2)", f="fun (num) a", g="fun (num) a")
        self.functions("fun f (x) => (seq (call g 1) (call g x))\nfun g (x) => (seq (call f true) 2)", f=None, g=None)
        self.functions("fun f (x) => (seq (call g 1) (call g true))\nfun g (x) => x", f="fun (a) flag", g="fun (a) a")

    def test_a_group_that_does_not_fit_and_those_that_call_it(self):
        program = self.functions(
            "fun a () => (plus 1 true)\nfun b () => (seq a 1)\nfun c (x) => (call b)\nfun d (x) => (call dd x)\nfun dd (x) => (call d c)\nfun e (x) => x",
            a=None, b=None, c=None, d=None, dd=None, e="fun (a) a")
        self.misfits(("a", ()), ("(list 1 c)", (1,)), ("(call d 1)", (0,)), ("(list (not 1) a)", (0, 0)), program=program)
        self.kinds(("(call e 1)", "num"), program=program)

    def test_an_endless_kind(self):
        self.functions("fun f (x) => (call x x)\nfun g () => g\nfun h (x) => (call h x x)\nfun i (x) => i", f=None, g=None, h=None, i=None)
        self.functions("fun f () => (call f)\nfun g (x) => (raise 'a)", f="fun () a", g="fun (a) b")

    def test_functions_of_the_book_through_words(self):
        book = """word count
rule a => (call cnt a)
word size
rule a => (plus (count a) 1)
fun cnt (x) => (if (none x) 0 (size (rest x)))
fun both (x y) => (list (count x) (size y))
word odd
rule a => (call bad a)
fun bad (x) => (not (plus x 1))
fun worse (x) => (seq (odd x) 1)"""
        self.functions("fun own (x) => (size (put 1 x))\nfun two () => (plus (count [1]) (count ['a]))", book,
                       cnt="fun ((list a)) num", both="fun ((list a) (list b)) (list num)", bad=None, worse=None, own="fun ((list num)) num",
                       two="fun () num")
        self.assertEqual(rule_kind(Book(book), "size", 1), (((("list a", ()),),), "num"))
        with self.assertRaises(NoKind):
            rule_kind(Book(book), "odd", 1)

    def test_one_kind_inside_of_a_group_through_words(self):
        # The template calls the function in whose body the word stands.
        book = "word again\nrule a b => (seq (call f a) (call f b))\nfun f (x) => (if true 1 (again x x))\nfun g () => (again 1 true)"
        program = self.functions("fun own (x) => (again x 'a)", book, f="fun (a) num", g="fun () num", own="fun (a) num")
        self.kinds(("(again 1 'a)", "num"), program=program)
        book = "word again\nrule a b => (seq (call f a) (call f b))\nfun f (x) => (if true 1 (again x 5))\nfun g (x) => (again x true)"
        self.functions("fun own () => 1", book, f="fun (num) num", g=None, own="fun () num")
        book = "word again\nrule a b => (seq (call f a) (call f b))\nfun f (x) => (if true 1 (again true 5))\nfun g () => (again 1 1)"
        self.functions("fun own () => 1", book, f=None, g=None, own="fun () num")

    def test_those_of_the_sample_programs(self):
        program = programs.one("1")
        for name in program.functions + program.book.functions:
            self.assertEqual(kind_of_function(program, name), Kinds(program).of_function(name))
        self.assertEqual(kind_of_function(f="f", program=program), "fun ((cell num) num) num")


class States(unittest.TestCase):

    def told(self, line, wanted):
        program = programs.one("1")
        state = state_of(program, line)
        with self.subTest(line):
            if wanted is None:
                with self.assertRaises(NoKind) as caught:
                    kind_of_state(program, state)
                self.assertEqual(caught.exception.path, ())
            else:
                self.assertEqual(kind_of_state(program, state), wanted)
            self.assertEqual(Kinds(program).of_state(state), wanted)

    def test_cells(self):
        self.told("1", "num")
        self.told("(or 1 2)", None)
        self.told("#1 where #1 = 5", "cell num")
        self.told("(get #1) where #1 = [5]", "list num")
        self.told("(list #1 #2) where #1 = [] , #2 = [1]", "list (cell (list num))")
        self.told("#1 where #1 = []", "cell (list a)")
        self.told("(set #1 'a) where #1 = 5", None)

    def test_cells_that_lead_to_one_another_and_to_themselves(self):
        self.told("#1 where #1 = (fun (x) (seq (set #1 (fun (y) y)) x))", "cell (fun (a) a)")
        self.told("#1 where #1 = #1", None)
        self.told("#1 where #1 = [#1]", None)
        self.told("#1 where #1 = (fun () #1)", None)
        self.told("#1 where #1 = (fun () (call (get #1)))", "cell (fun () a)")
        self.told("(get #1) where #1 = (fun (x) (call (get #2) x)) , #2 = (fun (x) (plus (call (get #1) x) 1))", "fun (a) num")
        self.told("(list #1) where #1 = #2 , #2 = #3 , #3 = 'a", "list (cell (cell (cell word)))")

    def test_cells_to_which_only_other_cells_lead(self):
        self.told("(seq #1 1) where #1 = #2 , #2 = (fun () (plus 1 true))", None)
        self.told("(seq #1 1) where #1 = #2 , #2 = (fun () (plus 1 2))", "num")
        self.told("(seq #1 (get (get #1))) where #1 = #2 , #2 = (fun () (set #3 2)) , #3 = 1", "fun () num")
        self.told("(seq #1 1) where #1 = #2 , #2 = (fun () (set #3 true)) , #3 = 1", None)

    def test_hidden_states(self):
        for program in programs.programs()[:20]:
            model = Kinds(program)
            stepper = Stepper(program)
            for _ in range(6):
                try:
                    found = kind_of_state(program=program, state=stepper.state)
                except NoKind:
                    found = None
                self.assertEqual(found, model.of_state(stepper.state))
                stepper.forth()


class Rules(unittest.TestCase):

    def test_the_document_s_example(self):
        self.assertEqual(rule_kind(Book(FOR), "for", 3), (((("a", ()),), (("b", ("a",)),)), "b"))

    def test_rules(self):
        told = lambda word, n: rule_kind(BOOK, word, n)
        self.assertEqual(told("or", 1), (((("a", ()),),), "a"))
        self.assertEqual(told("or", 3), (((("flag", ()),),) * 3, "flag"))
        self.assertEqual(told("twice", 1), (((("a", ()), ("b", ())),), "b"))
        self.assertEqual(told("dup", 1), (((("a", ()), ("b", ()), ("c", ()), ("b", ())),), "list b"))
        self.assertEqual(told("under", 2), (((("a", ("b",)), ("c", ("b",))),), "fun (b) c"))
        self.assertEqual(told("lst", 0), ((), "list a"))
        self.assertEqual(told("lst", 2), (((("a", ()),), (("a", ()),)), "list a"))
        places, whole = told("many", 2)
        self.assertEqual(len(places[0]), 8)
        self.assertEqual((places[0][:2], whole), ((("a", ("b",)), ("c", ("b",))), "list (list (fun (e) f))"))
        self.assertEqual(places[0][2:], (("d", ("e",)), ("f", ("e",)), ("g", ("h",)), ("i", ("h",)), ("j", ("e",)), ("f", ("e",))))
        for word, n in (("or", 0), ("or", 8), ("nobody", 1), ("for", 2), ("lst", 7), ("", 0)):
            self.assertIsNone(told(word, n))

    def test_own_binders_and_arguments_in_uses_alone(self):
        book = Book("word pair\nrule a b => (list a b)\nword k\nrule !x !y a b => (fun (y z x) (let t (list z) (seq (pair a x) (pair b t))))\n"
                    "word e\nrule a !x b c => (try a x (seq b (raise c)))")
        # In the scope of x and y stand both: a is one list with x, and b with a list of what is between them.
        self.assertEqual(rule_kind(book, "k", 4), (((("a", ("a", "b")),), (("list c", ("a", "b")),)), "fun (b c a) (list (list c))"))
        for word, n in (("pair", 2), ("k", 4), ("e", 4)):
            self.assertEqual(rule_kind(word=word, n=n, book=book), Kinds(Program(book, "run 1")).of_rule(word, n))
        self.assertEqual(rule_kind(book, "e", 4), (((("a", ()),), (("b", ("word",)),), (("word", ("word",)),)), "a"))

    def test_a_template_that_does_not_fit_by_itself(self):
        book = Book("word bad\nrule a => (plus true a)\nrule a b => (list a b)\nword worse\nrule a => (do (bad a))\nword endless\nrule a => (fun (x) (call x x a))")
        for word, n in (("bad", 1), ("worse", 1), ("endless", 1)):
            for _ in range(2):
                with self.assertRaises(NoKind) as caught:
                    rule_kind(book, word, n)
                self.assertEqual(caught.exception.path, ())
        self.assertEqual(rule_kind(book, "bad", 2), (((("a", ()),), (("a", ()),)), "list a"))

    def test_those_of_the_sample_books(self):
        for book in samples.books() + [programs.BOOK]:
            model = Kinds(Program(book, "run 1"))
            for word in book.words:
                for n in range(11):
                    wanted = None if book.rule(word, n) is None else model.of_rule(word, n)
                    if wanted is None and book.rule(word, n) is not None:
                        self.assertRaises(NoKind, lambda: rule_kind(book, word, n))
                    else:
                        self.assertEqual(rule_kind(book, word, n), wanted)


class Guarantees(unittest.TestCase):
    """[4]: without reading and with it; states of runs keep their kinds."""

    OTHER = "fun zz (x) => x\nfun yy (x y) => (if (same x y) (call xx x) 1)\nfun xx (x) => (if true 1 (call yy x x))\n"

    def over_books(self):
        for book in samples.books() + [programs.BOOK]:
            yield book, Program(book, (programs.OWN if book == programs.BOOK else self.OTHER) + "run 1")

    def told(self, program, tree):
        try:
            return kind_of(program, tree)
        except NoKind as error:
            return error.path

    def agree(self, program, model, tree):
        found = self.told(program, tree)
        self.assertEqual(found, model.of_tree(tree), show_tree(tree, program.book, program.functions))
        other = self.told(program, reading(program.book, tree))
        self.assertTrue(found == other or isinstance(found, tuple) and isinstance(other, tuple))
        return isinstance(found, str)

    def test_random_trees(self):
        fits = {True: 0, False: 0}
        wrong = [read_tree(text, Book("")) for text in ("1", "true", "'a", "[]", "(fun (x) x)", "(call 1)", "(list 1 true)")]
        for book, program in self.over_books():
            model = Kinds(program)
            for seed in range(60):
                choose = random.Random(seed)
                fitting = Fitting(program, choose)
                tree = fitting.tree(fitting.some_kind(), 2 + seed % 4)
                if count(reading(book, tree)) > 250:
                    continue
                fits[self.agree(program, model, tree)] += 1
                for _ in range(3):
                    other = with_subtree(tree, choose.choice(list(preorder(tree, ()))), choose.choice(wrong))
                    try:
                        show_tree(other, book, program.functions)
                    except (IndexError, KeyError):
                        continue
                    if self.is_right(book, other):
                        fits[self.agree(program, model, other)] += 1
        self.assertGreater(fits[True], 300)
        self.assertGreater(fits[False], 300)

    def is_right(self, book, tree):
        try:
            read_tree(show_tree(tree, book, ("f", "g", "h", "xx", "yy", "zz")), book, ("f", "g", "h", "xx", "yy", "zz"))
        except SaidError:
            return False
        return True

    def test_states_keep_kinds_and_no_kind_is_raised(self):
        many = steps = 0
        for book, program in self.over_books():
            for name in program.functions + book.functions:
                if Kinds(program).of_function(name) is None:
                    break
            else:
                for seed in range(60):
                    choose = random.Random(seed)
                    fitting = Fitting(program, choose)
                    wanted = fitting.some_kind()
                    tree = fitting.tree(wanted, 2 + seed % 4)
                    state = settled(reading(book, tree), ())
                    if count(state.term) > 300:
                        continue
                    first = kind_of_state(program, state)
                    stepper = Stepper(program, state)
                    many += 1
                    while not stepper.is_end and stepper.number < 60:
                        path, node = work_path(stepper.state.term)
                        had_kind = node == ("raise", (), (("quote", (), ("kind",)),))
                        self.assertFalse(had_kind)
                        stepper.forth()
                        steps += 1
                        kind_of_state(program, stepper.state)
                    if first in ("num", "flag", "word"):
                        self.assertIn(kind_of_state(program, stepper.state), (first, "a"))
                    end = outcome(stepper.state)
                    if end is not None and end[0] == "raised":
                        self.assertNotEqual(end[1], ("quote", (), ("kind",)))
        self.assertGreater(many, 100)
        self.assertGreater(steps, 800)

    def test_inks_are_not_looked_at(self):
        for program in programs.programs():
            stepper = Stepper(program)
            stepper.forth(3)
            term = stepper.state.term
            if not stepper.state.cells:
                self.assertEqual(self.told(program, term), self.told(program, bared(term)))


class Chains(unittest.TestCase):

    TEMPLATES = ("(plus (w a) (w a))", "(seq (w a) (w a))", "(do (w (w a)))", "(call f (w a) (w a))", "(call g (w a) (w a))",
                 "(if (same (w a) (w a)) (w a) (w a))", "(list (first (rest (list (w a)))) (w a))")

    def test_a_chain_of_words_each_of_which_uses_the_one_ahead_twice(self):
        for template in self.TEMPLATES:
            with self.subTest(template):
                rows = ["fun f (x y) => x", "fun g (x y) => (if true x (wd y))", "word wa", "rule a => (do a)"]
                for at in range(1, 12):
                    one, other = "abcdefghijkl"[at - 1:at + 1]
                    rows += ["word w" + other, "rule a => " + template.replace("w", "w" + one)]
                program = Program(Book("\n".join(rows)), "run 1")
                begin = time.perf_counter()
                try:
                    kind("(wl (fun (x) x))", program)
                except NoKind as error:
                    self.assertIn("plus", template)
                    self.assertEqual(error.path, (2,))
                self.assertLess(time.perf_counter() - begin, 0.5)


if __name__ == "__main__":
    unittest.main()
