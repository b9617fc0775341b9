"""[32]: books with more clear nodes, and with other names of words."""

import sys
import unittest

from saidanew.books import Book
from saidanew.errors import NoPlace
from saidanew.reading import reading
from saidanew.texts import read_tree

TEXT = """word or
rule a => (do a)
rule a ..r => (let t a (if t t *(or ..r)))
fun f (or) => (or or (fun (or w) (call f or)))
word for
rule !x a b => (call (fun (x) (seq b 12)) (list a 'red true))
word w
rule !p c d => (do (for p (or c (list c)) (try d q (for q 1 (plus q p)))))
word v
rule a ..r => (list a (call a (do a) ..r))"""

# All nodes in parentheses that are not the root, with the row of the template and what is marked.
NODES = {
    ("or", 1, (1,)): (2, "(if t t *(or ..r))"),
    ("or", 1, (1, 2)): (2, None),
    ("for", 0, (0,)): (5, "(fun (x) (seq b 12))"),
    ("for", 0, (0, 1)): (5, "(seq b 12)"),
    ("for", 0, (1,)): (5, "(list a 'red true)"),
    ("w", 0, (0,)): (7, "(for p (or c"),
    ("w", 0, (0, 2)): (7, "(or c (list c))"),
    ("w", 0, (0, 2, 3)): (7, "(list c)"),
    ("w", 0, (0, 3)): (7, "(try d q"),
    ("w", 0, (0, 3, 1)): (7, "(for q 1"),
    ("w", 0, (0, 3, 1, 3)): (7, "(plus q p)"),
    ("v", 0, (1,)): (9, "(call a"),
    ("v", 0, (1, 1)): (9, "(do a)"),
}


def marked(row, what):
    rows = TEXT.split("\n")
    if what is not None:
        assert rows[row].count(what) == 1, what
        rows[row] = rows[row].replace(what, "*" + what)
    return "\n".join(rows)


class WithClear(unittest.TestCase):

    def setUp(self):
        self.book = Book(TEXT)

    def tearDown(self):
        self.assertEqual(self.book.text, TEXT)
        self.assertEqual(self.book, Book(TEXT))

    def refused(self, word, rule, path):
        with self.subTest(word=word, rule=rule, path=path):
            with self.assertRaises(NoPlace) as caught:
                self.book.with_clear(word, rule, path)
            self.assertEqual(caught.exception.path, path)

    def test_every_node_in_parentheses(self):
        for (word, rule, path), (row, what) in NODES.items():
            with self.subTest(word=word, rule=rule, path=path):
                other = self.book.with_clear(word, rule, path)
                self.assertEqual(other.text, marked(row, what))
                self.assertEqual(other == self.book, what is None)
                # What is clear now stays clear.
                self.assertEqual(other.with_clear(word, rule, path), other)

    def test_no_other_path(self):
        steps = range(-1, 8)
        paths = [()] + [(a,) for a in steps] + [(a, b) for a in steps for b in steps]
        paths += [(a, b, c) for a in steps for b in steps for c in steps]
        paths += [(0, 3, 1, a) for a in steps] + [(0, 3, 1, 3, a) for a in steps]
        for word, many in (("or", 2), ("for", 1), ("w", 1), ("v", 1)):
            for rule in range(many):
                for path in paths:
                    if (word, rule, path) in NODES:
                        self.book.with_clear(word, rule, path)
                    else:
                        with self.assertRaises(NoPlace) as caught:
                            self.book.with_clear(word, rule, path)
                        self.assertEqual(caught.exception.path, path)

    def test_the_root(self):
        for word in ("or", "for", "w", "v"):
            self.refused(word, 0, ())

    def test_literals_names_arguments_and_rests(self):
        self.refused("for", 0, (0, 1, 1))
        self.refused("for", 0, (1, 1))
        self.refused("for", 0, (1, 2))
        self.refused("or", 1, (1, 0))
        self.refused("or", 0, (0,))
        self.refused("or", 1, (0,))
        self.refused("or", 1, (1, 2, 2))
        self.refused("v", 0, (0,))
        self.refused("v", 0, (1, 2))

    def test_paths_that_lead_nowhere(self):
        self.refused("or", 0, (1,))
        self.refused("or", 0, (0, 0))
        self.refused("or", 1, (1, 3))
        self.refused("or", 1, (1, -1))
        self.refused("or", 1, (-1,))
        self.refused("for", 0, (0, 0))
        self.refused("for", 0, (0, 2))
        self.refused("w", 0, (0, 0))
        self.refused("w", 0, (0, 1))
        self.refused("w", 0, (0, 4))
        self.refused("v", 0, (1, 3))
        self.refused("v", 0, (1, 2, 0))

    def test_unknown_words_and_rules(self):
        for word, rule in (("f", 0), ("and", 0), ("", 0), ("let", 0), ("or", 2), ("or", -1), ("or", -2), ("for", 1), ("v", 9)):
            self.refused(word, rule, (1,))
            self.refused(word, rule, ())

    def test_two_nodes_in_either_order(self):
        for one in NODES:
            for two in NODES:
                with self.subTest(one=one, two=two):
                    first = self.book.with_clear(*one).with_clear(*two)
                    second = self.book.with_clear(*two).with_clear(*one)
                    self.assertEqual(first, second)
                    self.assertEqual(first.text, second.text)

    def test_all_nodes(self):
        book = self.book
        for node in NODES:
            book = book.with_clear(*node)
        self.assertEqual(book.text.count("*"), len(NODES))
        for node in reversed(NODES):
            self.assertEqual(book.with_clear(*node), book)
        self.assertEqual(book.words, self.book.words)
        self.assertEqual(book.scopes("w", 3), self.book.scopes("w", 3))

    def test_a_rule_that_is_never_taken(self):
        book = Book("word w\nrule a => (do a)\nrule a => (do (list a (do 1)))")
        self.assertEqual(book.with_clear("w", 1, (0, 1)).text,
                         "word w\nrule a => (do a)\nrule a => (do (list a *(do 1)))")

    def test_by_name(self):
        self.assertEqual(self.book.with_clear(word="w", rule=0, path=(0,)), self.book.with_clear("w", 0, (0,)))


class Renamed(unittest.TestCase):

    def setUp(self):
        self.book = Book(TEXT)

    def tearDown(self):
        self.assertEqual(self.book.text, TEXT)

    def test_some_words(self):
        book = self.book.renamed({"or": "either", "w": "z"})
        self.assertEqual(book.text, """word either
rule a => (do a)
rule a ..r => (let t a (if t t *(either ..r)))
fun f (or) => (either or (fun (or w) (call f or)))
word for
rule !x a b => (call (fun (x) (seq b 12)) (list a 'red true))
word z
rule !p c d => (do (for p (either c (list c)) (try d q (for q 1 (plus q p)))))
word v
rule a ..r => (list a (call a (do a) ..r))""")
        self.assertEqual(book.words, ("either", "for", "z", "v"))
        self.assertEqual(book.functions, ("f",))
        self.assertEqual(book.scopes("z", 3), self.book.scopes("w", 3))
        self.assertIsNone(book.rule("or", 1))

    def test_words_exchanged(self):
        book = self.book.renamed({"or": "w", "w": "or"})
        self.assertEqual(book.words, ("w", "for", "or", "v"))
        self.assertEqual(book.rule("w", 3), 1)
        self.assertEqual(book.names("or", 3), (True, False, False))
        self.assertIn("(do (for p (w c (list c))", book.text)
        self.assertIn("fun f (or) => (w or (fun (or w)", book.text)
        self.assertEqual(book.renamed({"w": "or", "or": "w"}), self.book)

    def test_three_words_in_a_ring(self):
        names = {"or": "for", "for": "w", "w": "or"}
        book = self.book
        for _ in range(3):
            self.assertNotEqual(book.renamed(names), book)
            book = book.renamed(names)
        self.assertEqual(book, self.book)

    def test_none(self):
        self.assertEqual(self.book.renamed({}), self.book)
        self.assertEqual(self.book.renamed({"or": "or", "w": "w"}), self.book)
        self.assertEqual(self.book.renamed({"nothing": "else", "f": "g", "a": "b"}), self.book)
        self.assertEqual(Book("").renamed({"a": "b"}), Book(""))

    def test_functions_arguments_binders_and_quotes_keep_their_names(self):
        book = Book("word or\nrule or ..r => (let t or (list t or 'or ..r))\nrule ..w => (list ..w)\n"
                    "fun or (w) => (or w or 'or)\nword w\nrule !or a => (fun (or) (seq or a))")
        self.assertEqual(book.renamed({"or": "x", "w": "or"}).text,
                         "word x\nrule or ..r => (let t or (list t or 'or ..r))\nrule ..w => (list ..w)\n"
                         "fun or (w) => (x w or 'or)\nword or\nrule !or a => (fun (or) (seq or a))")

    def test_the_dict_stays_as_it_was_and_may_change_later(self):
        names = {"or": "either"}
        book = self.book.renamed(names)
        self.assertEqual(names, {"or": "either"})
        text = book.text
        names["or"] = "zz"
        names["w"] = "yy"
        self.assertEqual((book.text, book.words), (text, ("either", "for", "w", "v")))

    def test_by_name(self):
        self.assertEqual(self.book.renamed(names={"or": "either"}), self.book.renamed({"or": "either"}))

    def test_with_clear_nodes(self):
        names = {"or": "for", "for": "or"}
        one = self.book.with_clear("for", 0, (0,)).renamed(names)
        two = self.book.renamed(names).with_clear("or", 0, (0,))
        self.assertEqual(one, two)


SLOW = """word for
rule !x a b => (call (fun (x) (let oa (plus b 1) (if oa b 2))) a)
rule a => (do (list a (plus a 3) (times a a) (not true)))
word or
rule !x a b => (let x (do a) (let oa (do x) (try (plus oa b) ob b)))
word w
rule a b c => (list (or x a (or y b c)) (for p (for q a b) (do c)))
fun x () => 1
fun y () => 2"""
SLOW_NODES = [("for", 0, (0,)), ("for", 0, (0, 1)), ("for", 0, (0, 1, 0)), ("for", 0, (0, 1, 1)), ("for", 1, (0,)),
              ("for", 1, (0, 1)), ("or", 0, (0,)), ("or", 0, (1, 1)), ("w", 0, (0,)), ("w", 0, (0, 3)), ("w", 0, (1, 3))]


def calls_in(action):
    """How many functions written in Python an action calls."""
    many = []
    sys.setprofile(lambda frame, event, argument: many.append(1) if event == "call" else None)
    try:
        action()
    finally:
        sys.setprofile(None)
    return len(many)


class Quickly(unittest.TestCase):
    """Books of one writer's rows are not read and judged more often than they must be."""

    def all_told(self, book):
        told = [book.text, book.words, book.functions, len(book)]
        for word in book.words + ("x", "zz"):
            for n in range(9):
                told.append((book.rule(word, n), book.names(word, n), book.scopes(word, n)))
        return told

    def test_two_nodes_in_either_order_and_the_book_of_the_text(self):
        book = Book(SLOW)
        text = "(w (for p 1 (or q p q)) (for (list 1)) (fun (x) (or y x 2)))"
        for one in SLOW_NODES:
            for two in SLOW_NODES:
                first = book.with_clear(*one).with_clear(*two)
                second = book.with_clear(*two).with_clear(*one)
                typed = Book(first.text)
                self.assertEqual(first, second)
                self.assertEqual(first, typed)
                self.assertEqual(first.text.count("*"), 1 if one == two else 2)
                self.assertEqual(self.all_told(first), self.all_told(typed))
                tree = read_tree(text, book)
                self.assertEqual(reading(first, tree), reading(typed, tree))
                self.assertEqual(reading(second, tree), reading(typed, tree))
                names = {"or": "either", "for": "w", "w": "for"}
                self.assertEqual(first.renamed(names), typed.renamed(names))
        self.assertEqual(book.text, SLOW)
        self.assertEqual(self.all_told(book), self.all_told(Book(SLOW)))

    def test_a_refused_node_changes_nothing(self):
        book = Book(SLOW).with_clear("w", 0, (0,))
        before = self.all_told(book)
        for word, rule, path in (("w", 0, ()), ("w", 0, (0, 2)), ("w", 1, (0,)), ("zz", 0, (0,)), ("w", 0, (0, 3, 9))):
            with self.assertRaises(NoPlace):
                book.with_clear(word, rule, path)
        self.assertEqual(self.all_told(book), before)

    def test_a_clearer_book_costs_little_of_what_a_new_one_costs(self):
        book = Book(SLOW)
        for one in SLOW_NODES:
            other = book.with_clear(*one)
            for two in SLOW_NODES:
                many = calls_in(lambda: other.with_clear(*two))
                self.assertLess(many * 6, calls_in(lambda: Book(SLOW)))

    def test_a_book_costs_some_calls_for_each_token(self):
        for text in (SLOW, SLOW.replace("word ", "word a").replace("(or ", "(aor ").replace("(for ", "(afor ") + "\n" + SLOW.replace(
                "fun x", "fun p").replace("fun y", "fun q").replace("(or x a (or y", "(or p a (or q")):
            tokens = len(text.replace("(", " ( ").replace(")", " ) ").split())
            self.assertLess(calls_in(lambda: Book(text)), 6 * tokens)


if __name__ == "__main__":
    unittest.main()
