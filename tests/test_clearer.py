"""[32]: clearer books and other names; and what [4] says of clearer books."""

import unittest

from saidanew.books import Book
from saidanew.changes import clear_ink, cleared, renamed_tree
from saidanew.errors import NoPlace
from saidanew.programs import Program
from saidanew.reading import reading, turned
from saidanew.stepper import Stepper
from saidanew.steps import line_of, settled
from saidanew.texts import read_tree
from saidanew.trees import bared, count, inked
from tests import programs, samples
from tests.kinding import all_nodes
from tests.samples import FOR, OR

TEXT = OR.replace("*", "") + "\n" + FOR + """
word w
rule a b => (let x (list a 1) (if (seq x b) (do a) (for y (or a) (or b y x))))
rule !x a b c => (try (for x a b) e (fun (y) (list c e y)))
word v
rule a ..r => (list (do a) (do (call f ..r)))
fun f (x) => x"""
BOOK = Book(TEXT)


def short_paths():
    found = level = [()]
    for _ in range(3):
        level = [path + (at,) for path in level for at in range(6)]
        found = found + level
    return found


def clear_nodes(book):
    """All places of a book's templates that can be made clear."""
    found = []
    for word in book.words:
        for rule in range(4):
            for path in short_paths():
                try:
                    book.with_clear(word, rule, path)
                except NoPlace:
                    continue
                found.append((word, rule, path))
    return found


class WithClear(unittest.TestCase):

    def test_each_path_of_a_template(self):
        # In parentheses are the nodes with these paths, behind the root; the names, the integer and the arguments are not.
        self.assertEqual([node[2] for node in clear_nodes(BOOK) if node[:2] == ("w", 0)],
                         [(0,), (1,), (1, 0), (1, 1), (1, 2), (1, 2, 2), (1, 2, 3)])
        self.assertEqual([node[2] for node in clear_nodes(BOOK) if node[:2] == ("w", 1)], [(0,), (1,), (1, 1)])
        self.assertEqual([node[2] for node in clear_nodes(BOOK) if node[:2] == ("v", 0)], [(0,), (1,), (1, 0)])
        self.assertEqual([node for node in clear_nodes(BOOK) if node[0] == "or"], [("or", 1, (1,)), ("or", 1, (1, 2))])

    def test_what_is_no_place(self):
        for word, rule, path in (("w", 0, ()), ("nobody", 0, (0,)), ("w", 3, (0,)), ("f", 0, (0,)), ("w", 0, (0, 0)), ("w", 0, (0, 1)),
                                 ("w", 0, (1, 0, 0)), ("w", 0, (2,)), ("w", 0, (1, 2, 0)), ("w", 0, (1, 2, 1)), ("w", 1, (1, 0)),
                                 ("v", 0, (1, 0, 1)), ("v", 0, (1, 0, 0)), ("w", 2, (0,)), ("or", 0, (0,)), ("w", 0, (9, 9, 9)), ("w", 1, (0, 2))):
            with self.subTest((word, rule, path)):
                with self.assertRaises(NoPlace) as caught:
                    BOOK.with_clear(word, rule, path)
                self.assertEqual(caught.exception.path, path)

    def test_nodes_that_are_clear_already(self):
        for node in clear_nodes(BOOK):
            book = BOOK.with_clear(*node)
            self.assertNotEqual(book, BOOK)
            self.assertEqual(book.with_clear(*node), book)
            self.assertEqual(Book(book.text), book)


class Inks(unittest.TestCase):

    def test_marks_of_nodes_that_are_clear_only_there(self):
        other = BOOK.with_clear("or", 1, (1,)).with_clear("w", 0, (1, 2, 3)).with_clear("v", 0, (1, 0))
        one, two, three = ("or", 1, (1,)), ("w", 0, (1, 2, 3)), ("v", 0, (1, 0))
        root, name, lost = ("or", 1, ()), ("or", 1, (1, 0)), ("zz", 5, (1,))
        for ink, wanted in (((), ()), ((one,), ()), ((root,), (root,)), ((root, one, name), (root, name)), ((one, one, two), ()),
                            ((lost, one, three, lost), (lost, lost)), ((("or", 0, (1,)), ("or", 2, (1,))), (("or", 0, (1,)), ("or", 2, (1,)))),
                            ((("w", 1, (1, 0)), ("w", 0, (1, 2))), (("w", 1, (1, 0)), ("w", 0, (1, 2)))), ((two, root) * 6, (root,) * 6),
                            ((("or", 1, (1, 7, 7)), ("or", 1, (0, 0))), (("or", 1, (1, 7, 7)), ("or", 1, (0, 0))))):
            with self.subTest(ink):
                self.assertEqual(clear_ink(BOOK, other, ink), wanted)
                self.assertEqual(clear_ink(ink=ink, other=other, book=BOOK), wanted)
        self.assertEqual(clear_ink(BOOK, BOOK, (one, two)), (one, two))
        # What is clear in both books stays: no ink of the first one has such a mark.
        self.assertEqual(clear_ink(other, other, (one, two)), (one, two))
        self.assertEqual(clear_ink(BOOK.with_clear(*one), other, (one, two)), (one,))

    def test_names_and_roots_are_never_clear(self):
        other = BOOK
        for node in clear_nodes(BOOK):
            other = other.with_clear(*node)
        for ink in ((("w", 0, ()),), (("w", 0, (1, 0, 0)),), (("w", 0, (1, 2, 3, 3)),), (("w", 1, (1, 1, 1)),)):
            self.assertEqual(clear_ink(BOOK, other, ink), ink)

    def test_cleared(self):
        tree = reading(BOOK, read_tree("(w (or 1 2) 3)", BOOK))
        other = BOOK.with_clear("or", 1, (1,)).with_clear("w", 0, (1, 2))
        found = cleared(BOOK, other, tree)
        self.assertEqual(bared(found), bared(tree))
        self.assertEqual([(path, ink) for path, ink in inked(found)],
                         [(path, clear_ink(BOOK, other, ink)) for path, ink in inked(tree) if clear_ink(BOOK, other, ink)])
        self.assertLess(sum(len(ink) for _, ink in inked(found)), sum(len(ink) for _, ink in inked(tree)))
        self.assertEqual(cleared(tree=tree, book=BOOK, other=other), found)
        inky = ("use", (("or", 1, (1,)), ("for", 0, ())), ("or", 1, ("made", (), (("fun", (("w", 0, (1, 2)),), (0, ("int", (), (1,)))),))))
        self.assertEqual(cleared(BOOK, other, inky),
                         ("use", (("for", 0, ()),), ("or", 1, ("made", (), (("fun", (), (0, ("int", (), (1,)))),)))))

    def test_books_that_differ_by_several_clear_nodes(self):
        """The reading in the one book is that in the other one, cleared."""
        for book in samples.books() + [programs.BOOK, BOOK]:
            places = clear_nodes(book)
            for seed in range(25):
                maker = samples.Maker(book, 500 + seed)
                other = book
                for node in maker.random.sample(places, min(len(places), 1 + seed % 5)):
                    other = other.with_clear(*node)
                tree = maker.tree(2 + seed % 4)
                core = reading(book, tree)
                if count(core) > 300:
                    continue
                self.assertEqual(reading(other, tree), cleared(book, other, core))
                self.assertEqual(reading(Book(other.text), tree), cleared(book, other, core))
                self.assertEqual(turned(other, cleared(book, other, core)), tree)

    def test_lines_of_clearer_books(self):
        """[4]"""
        for seed, program in enumerate(programs.programs()):
            maker = samples.Maker(programs.BOOK, seed)
            other = programs.BOOK
            for node in maker.random.sample(clear_nodes(programs.BOOK), 4):
                other = other.with_clear(*node)
            stepper = Stepper(program)
            again = Stepper(Program(other, programs.OWN + "run " + stepper.line()))
            while True:
                state = stepper.state
                cells = [cleared(programs.BOOK, other, value) for value in state.cells]
                self.assertEqual(again.state, settled(cleared(programs.BOOK, other, state.term), cells))
                if stepper.line() is not None:
                    self.assertEqual(again.line(), stepper.line())
                if not stepper.forth():
                    break
                again.forth()


class Renamed(unittest.TestCase):

    def test_marks_uses_and_nothing_else(self):
        names = {"or": "either", "for": "or", "do": "nothing", "f": "nothing", "red": "nothing"}
        tree = ("use", (("or", 1, (1,)), ("for", 0, ()), ("zz", 3, ())), ("for", 3, ("quote", (), ("red",)), ("call", (("or", 0, ()),), (
            ("global", (), ("f",)), ("name", (("f", 0, ()),), (0,)), ("made", (), (("use", (), ("w", 1, ("int", (), (1,)))),)),
            ("use", (), ("or", 0))))))
        self.assertEqual(renamed_tree(tree, names), (
            "use", (("either", 1, (1,)), ("or", 0, ()), ("zz", 3, ())), ("or", 3, ("quote", (), ("red",)), ("call", (("either", 0, ()),), (
                ("global", (), ("f",)), ("name", (("nothing", 0, ()),), (0,)), ("made", (), (("use", (), ("w", 1, ("int", (), (1,)))),)),
                ("use", (), ("either", 0)))))))
        self.assertEqual(renamed_tree(names={}, tree=tree), tree)
        self.assertEqual(names, {"or": "either", "for": "or", "do": "nothing", "f": "nothing", "red": "nothing"})

    def test_books_and_trees(self):
        """In a book by other names a tree by other names reads as before, by other names."""
        for book in samples.books() + [programs.BOOK, BOOK]:
            words = book.words
            circle = dict(zip(words, words[1:] + words[:1]))
            fresh = {word: "n" + word[:6] for word in words}
            some = {words[0]: "zzz"}
            for names in (circle, fresh, some, {}):
                other = book.renamed(names)
                self.assertEqual(other.words, tuple(names.get(word, word) for word in words))
                back = {name: word for word, name in names.items()}
                self.assertEqual(other.renamed(back), book)
                for seed in range(6):
                    maker = samples.Maker(book, 800 + seed)
                    tree = maker.tree(2 + seed % 3)
                    core = reading(book, tree)
                    if count(core) > 300:
                        continue
                    self.assertEqual(reading(other, renamed_tree(tree, names)), renamed_tree(core, names))
                    self.assertEqual(turned(other, renamed_tree(core, names)), renamed_tree(tree, names))
                    self.assertEqual(renamed_tree(renamed_tree(core, names), back), core)

    def test_runs_by_other_names(self):
        names = {"or": "for", "for": "or", "sum": "total"}
        book = programs.BOOK.renamed(names)
        for program in programs.programs()[:12]:
            stepper = Stepper(program)
            start = settled(renamed_tree(program.start.term, names), [renamed_tree(value, names) for value in program.start.cells])
            other = Program(book, programs.OWN.replace("(for ", "(or ").replace("(sum ", "(total ") + "run 1")
            again = Stepper(other, start)
            while True:
                term = renamed_tree(stepper.state.term, names)
                self.assertEqual(again.state.term, term)
                self.assertEqual(again.line() is None, stepper.line() is None)
                if not stepper.forth():
                    break
                again.forth()
            self.assertEqual(line_of(other, again.state) is None, stepper.line() is None)

    def test_every_node_is_named_anew(self):
        tree = reading(BOOK, read_tree("(w (or 1 2) (for x 3 (or x x)))", BOOK))
        found = renamed_tree(tree, {"or": "aa", "for": "bb", "w": "cc"})
        self.assertEqual({mark[0] for node in all_nodes(found) for mark in node[1]}, {"aa", "bb", "cc"})


if __name__ == "__main__":
    unittest.main()
