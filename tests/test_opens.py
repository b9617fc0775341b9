"""[26]: open arguments."""

import unittest

from saidanew.books import Book
from saidanew.opens import open_arguments
from saidanew.reading import reading
from saidanew.trees import with_subtree
from tests import programs, samples
from tests.changes import paths
from tests.samples import OR
from tests.test_stepper import work_path

EARLIER = """word pair
rule a b => (list (do a) b)
word late
rule a b => (let x 1 (list a b))
word thunk
rule a => (fun () a)
word twice
rule a => (list a a)
word all
rule ..r => (list ..r)
word some
rule a ..r => (list a ..r)
word for
rule !x a b => (let x a b)
fun f (x) => x"""


class Opens(unittest.TestCase):

    def opens(self, arguments, template, *wanted, n=None):
        book = Book(EARLIER + "\nword w\nrule " + arguments + " => " + template)
        n = len(arguments.split()) if n is None else n
        self.assertEqual(open_arguments(book, "w", n), wanted)

    def test_the_document_s_example(self):
        book = Book(OR)
        self.assertEqual(open_arguments(book, "or", 3), (0,))
        self.assertEqual([open_arguments(book, "or", n) for n in range(9)], [None] + [(0,)] * 7 + [None])
        self.assertIsNone(open_arguments(book, "nor", 1))
        self.assertIsNone(open_arguments(n=0, word="or", book=book))

    def test_at_the_first_place(self):
        for head in ("do", "not", "first", "rest", "none", "cell", "get", "raise", "say"):
            self.opens("a", f"({head} a)", 0)
        self.opens("a b", "(seq a b)", 0)
        self.opens("a b", "(let x a b)", 0)
        self.opens("a b c", "(if a b c)", 0)
        self.opens("a b", "(try a x b)", 0)

    def test_behind_values_and_arguments(self):
        self.opens("a", "(plus 1 a)", 0)
        self.opens("a b", "(plus a b)", 0, 1)
        self.opens("a b", "(list b 'red f true (fun () 1) a)", 0, 1)
        self.opens("a b c", "(call f a b c)", 0, 1, 2)
        self.opens("a b c", "(call c b a)", 0, 1, 2)

    def test_behind_a_step(self):
        self.opens("a", "(plus (plus 1 2) a)")
        self.opens("a", "(list (list) a)")
        self.opens("a b", "(list a (do 1) b)", 0)
        self.opens("a b c", "(list a (do b) c)", 0, 1)
        self.opens("a b c d", "(list a (do (seq b c)) d)", 0, 1)

    def test_in_what_is_passed(self):
        self.opens("a", "(fun () a)")
        self.opens("a", "(list (fun () a) 1)")
        self.opens("a b", "(list (fun () a) b)", 1)
        self.opens("a b c", "(list a (fun () b) c)", 0, 2)

    def test_in_branches_and_behind_binders(self):
        self.opens("a b c", "(if b a c)", 1)
        self.opens("a b", "(if true a b)")
        self.opens("a b", "(let x b (list a x))", 1)
        self.opens("a b", "(let x 1 (list a b))")
        self.opens("a b", "(let x (do a) b)", 0)
        self.opens("!x a b", "(let x a b)", 0)
        self.opens("a !x b", "(try b x a)", 1)
        self.opens("!x a b", "(call (fun (x) b) a)", 0)
        self.opens("a b", "(seq (list a b) (do 1))", 0, 1)

    def test_those_that_stand_twice(self):
        self.opens("a", "(list a a)")
        self.opens("a b", "(list a b a)", 1)
        self.opens("a b", "(let x a (seq a b))")
        self.opens("a b", "(list a (fun () a) b)", 1)

    def test_in_uses_of_earlier_words(self):
        self.opens("a b", "(do (pair a b))", 0)
        self.opens("a b", "(do *(late a b))")
        self.opens("a", "(list (thunk a))")
        self.opens("a b", "(list (thunk a) b)", 1)
        self.opens("a", "(do (twice a))")
        self.opens("a b", "(seq (all b a) 1)", 0, 1)
        self.opens("a b c", "(list c (for x a b))", 0, 2)
        self.opens("a b", "(list (all) a b)")
        self.opens("a b c", "(do (for x (pair a b) c))", 0)

    def test_rests(self):
        for n in range(7):
            self.opens("..r", "(list ..r)", *range(n), n=n)
            self.opens("a ..r", "(call a ..r)", *range(n + 1), n=n + 1)
            self.opens("a ..r", "(list (seq a 1) ..r)", 0, n=n + 1)
            self.opens("a ..r", "(do (some a ..r))", *range(n + 1), n=n + 1)
            self.opens("a ..r", "(seq (list ..r) a)", *range(1, n + 1), n=n + 1)
            self.opens("a b ..r", "(list b a ..r)", *range(n + 2), n=n + 2)

    def test_words_and_numbers_that_no_rule_takes(self):
        book = Book(EARLIER)
        for word, n in (("pair", 1), ("pair", 3), ("pair", 0), ("all", 7), ("f", 1), ("list", 1), ("", 0), ("for", 2)):
            self.assertIsNone(open_arguments(book, word, n))

    def test_by_what_stands_there(self):
        """An argument is open if a step of it is the next one, all that are ahead of it being values."""
        for book in samples.books() + [programs.BOOK]:
            for word in book.words:
                for n in range(8):
                    scopes = book.scopes(word, n)
                    if scopes is None:
                        continue
                    self.assertEqual(open_arguments(book, word, n), self.by_trial(book, word, n, len(scopes)))

    def by_trial(self, book, word, n, many):
        found = []
        value, mark = ("quote", (), ("marked",)), ("quote", (), ("other",))
        for number in range(many):
            tree = ("use", (), (word, n) + (value,) * many)
            both = [reading(book, with_subtree(tree, (number + 2,), thing)) for thing in (value, mark)]
            places = [path for path in paths(both[1]) if _at(both[1], path) == mark]
            work = ("do", (), (("int", (), (1,)),))
            whole = reading(book, with_subtree(tree, (number + 2,), work))
            if len(places) == 1 and whole[0] != "fun" and work_path(whole)[0] == places[0]:
                found.append(number)
        return tuple(found)


def _at(tree, path):
    for at in path:
        tree = tree[2][at]
    return tree


if __name__ == "__main__":
    unittest.main()
