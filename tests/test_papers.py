"""[17]: papers."""

import unittest
from unittest import mock

from saidanew import papers as papers_module
from saidanew.books import Book
from saidanew.papers import paper_holds, why_hidden
from saidanew.programs import Program
from saidanew.reading import is_turned, reading, turned
from saidanew.steps import step
from saidanew.texts import read_tree
from saidanew.trees import count, subtree, with_subtree
from tests import samples
from tests.changes import changed, paths
from tests.model import Model
from tests.samples import FOR, OR

BOOK = Book(OR + "\n" + FOR + """
word w
rule a b => (let x (list a 1 'red) (if (seq x b) *(do a) (call f (fun (y z) (plus y b)))))
word v
rule a => (do a)
rule a ..r => (list a (fun (x) (call x ..r)))
rule a b => (list a b)
fun f (x) => x""")
KINDS = ("lost", "part", "unlike", "own", "count")


def integer(number):
    return ("int", (), (number,))


def read(text):
    return reading(BOOK, read_tree(text, BOOK))


class Papers(unittest.TestCase):

    def holds(self, tree, *papers):
        """These papers and no others hold of their kinds and places."""
        for paper in papers:
            with self.subTest(paper):
                self.assertIs(paper_holds(BOOK, tree, paper), True)
        self.assertEqual(set(papers), set(Model(BOOK).papers(tree)))
        for value in self.candidates(tree):
            self.assertIs(paper_holds(BOOK, tree, value), value in papers, value)
        why = why_hidden(BOOK, tree)
        self.assertIn(why, papers) if papers else self.assertIsNone(why)

    def candidates(self, tree):
        back = turned(BOOK, tree)
        for path in list(paths(back)) + [(5,), (0, 9)]:
            yield ("lost", path)
            yield ("count", path)
            for number in range(5):
                yield ("unlike", path, number)
                yield ("own", path, number)
            for inner in ((), (0,), (1,), (2,), (0, 0), (0, 1), (0, 2), (1, 0), (1, 1), (1, 2), (1, 1, 0), (1, 2, 1, 1)):
                yield ("part", path, inner)

    def test_none(self):
        for text in ("1", "(or 1 2 3)", "(for x 1 (w x x))", "[(fun () 1)]", "(v 1)", "(v 1 2 3)", "(let x 1 (do x))"):
            self.holds(read(text))

    def test_the_document_s_state(self):
        book = Book(OR)
        program = Program(book, "run (or (less 2 1) (none []) true)")
        state = step(program, step(program, program.start)[0])[0]
        self.assertEqual(why_hidden(book, state.term), ("lost", ()))

    def test_lost(self):
        tree = subtree(read("(or 1 2)"), (1,))
        whole = with_subtree(tree, (0,), integer(1))
        whole = with_subtree(whole, (1,), integer(1))
        self.holds(whole, ("lost", ()))
        tree = ("list", (), (("do", (("w", 0, (1, 1)),), (integer(1),)), ("do", (("zz", 5, (3,)),), (integer(1),)), read("(or 1)")))
        self.holds(tree, ("lost", (0,)), ("lost", (1,)))

    def test_lost_inside_of_what_was_turned_back(self):
        lost = ("do", (("w", 0, (1,)),), (integer(1),))
        # The path leads through the use, of which the first two items are no trees.
        self.holds(with_subtree(read("(or 5)"), (0,), lost), ("lost", (2,)))
        self.holds(with_subtree(read("(for x 5 x)"), (1,), lost), ("lost", (2,)))

    def parts(self, tree, *others):
        """The papers of a reading of `w` in which parts are missing, and what is lost with it."""
        self.holds(tree, *others, *[("lost", path) for path in self.lost(tree)])

    def lost(self, tree):
        return [path for path, node in self.all_nodes(turned(BOOK, tree)) if node[1] and node[1][-1][2] != ()]

    def all_nodes(self, tree):
        return [(path, subtree(tree, path)) for path in paths(tree)]

    def test_part_by_its_head(self):
        tree = read("(w 5 6)")
        self.parts(with_subtree(tree, (1, 0), ("plus",) + subtree(tree, (1, 0))[1:]), ("part", (), (1, 0)))
        self.parts(with_subtree(tree, (1, 1), ("not",) + subtree(tree, (1, 1))[1:]), ("part", (), (1, 1)))
        self.parts(("try",) + tree[1:], ("part", (), ()))

    def test_part_by_its_number_of_items(self):
        tree = read("(w 5 6)")
        head, ink, items = subtree(tree, (0,))
        self.parts(with_subtree(tree, (0,), (head, ink, items + items)), ("part", (), (0,)))
        self.parts(with_subtree(tree, (0,), (head, ink, items[:2])), ("part", (), (0,)), ("part", (), (0, 2)))
        self.parts(with_subtree(tree, (0,), (head, ink, ())), ("part", (), (0,)), ("part", (), (0, 1)), ("part", (), (0, 2)))

    def test_part_by_an_item_that_is_no_tree(self):
        tree = read("(w 5 6)")
        for path, item in (((0, 1), ("int", (), (2,))), ((0, 2), ("quote", (), ("blue",))), ((1, 2, 0), ("global", (), ("g",))),
                           ((0, 1), ("flag", (), (True,)))):
            self.parts(with_subtree(tree, path, item), ("part", (), path))
        name = subtree(tree, (1, 2, 1, 1, 0))
        self.parts(with_subtree(tree, (1, 2, 1, 1, 0), name[:2] + ((0,),)), ("part", (), (1, 2, 1, 1, 0)))
        fun = subtree(tree, (1, 2, 1))
        self.parts(with_subtree(tree, (1, 2, 1), fun[:2] + ((3, fun[2][1]),)), ("part", (), (1, 2, 1)))

    def test_part_by_its_ink(self):
        tree = read("(w 5 6)")
        for path in ((0,), (1,), (1, 0), (1, 0, 0), (1, 2), (1, 2, 1)):
            node = subtree(tree, path)
            self.parts(with_subtree(tree, path, (node[0], (), node[2])), ("part", (), path))
        # The clear node has no ink of its own.
        node = subtree(tree, (1, 1))
        self.parts(with_subtree(tree, (1, 1), (node[0], (("w", 0, (1, 1)),), node[2])), ("part", (), (1, 1)))
        # All inks are told by that of the root.
        tree = (tree[0], (("or", 1, (1, 2)),) + tree[1], tree[2])
        self.parts(tree, *[("part", (), path) for path in ((0,), (1,), (1, 0), (1, 0, 0), (1, 1), (1, 2), (1, 2, 1), (1, 2, 1, 1),
                                                           (1, 2, 1, 1, 0))])

    def test_part_where_one_comes_to_no_tree(self):
        tree = ("let", (("w", 0, ()),), (integer(1), integer(2)))
        missing = [(0,), (0, 1), (0, 2), (1,), (1, 0), (1, 0, 0), (1, 1), (1, 2), (1, 2, 0), (1, 2, 1), (1, 2, 1, 1), (1, 2, 1, 1, 0)]
        self.holds(tree, *[("part", (), path) for path in missing])
        # A path that leads to an item that is no tree leads to no tree.
        tree = ("fun", (("w", 0, ()),), (0, integer(2)))
        self.holds(tree, *[("part", (), path) for path in [()] + missing])

    def test_a_part_where_the_template_has_a_use(self):
        # The clear `or` of the template of `or` is turned back ahead of it.
        tree = read("(or 1 2 3)")
        self.assertEqual(subtree(tree, (1, 2))[0], "let")
        broken = with_subtree(tree, (1, 2, 1, 1), integer(0))
        self.assertTrue(paper_holds(BOOK, broken, ("part", (), (1, 2))))
        self.assertTrue(paper_holds(BOOK, broken, ("part", (1, 2), (1, 1))))
        self.assertEqual(set(Model(BOOK).papers(broken)), {
            ("part", (), (1, 2)), ("lost", (1,)), ("lost", (1, 0)), ("lost", (1, 1)), ("part", (1, 2), (1, 1)),
            ("lost", (1, 2, 1)), ("lost", (1, 2, 1, 0))})

    def test_parts_with_a_rest(self):
        mark = lambda *path: (("v", 1, path),)
        inner = lambda *items: ("fun", mark(1), (1, ("call", mark(1, 1), items)))
        name = ("name", mark(1, 1, 0), (0,))
        self.holds(("list", mark(), (integer(1), inner(name, integer(2)))))
        # It has fewer items than the template without its rest.
        self.holds(("list", mark(), (integer(1), inner(integer(2)))), ("part", (), (1, 1, 0)), ("lost", (1,)), ("lost", (1, 1)))
        call = ("list", mark(1, 1), ())
        self.holds(("list", mark(), (integer(1), ("fun", mark(1), (1, call)))),
                   ("part", (), (1, 1)), ("part", (), (1, 1, 0)), ("lost", (1,)), ("lost", (1, 1)))

    def test_unlike(self):
        for one, other in ((5, 9), (9, 5)):
            tree = with_subtree(with_subtree(read("(w 1 2)"), (0, 0), integer(one)), (1, 1, 0), integer(other))
            self.parts(tree, ("unlike", (), 0))
        tree = with_subtree(read("(w 1 2)"), (1, 0, 1), read("(or 1)"))
        self.parts(tree, ("unlike", (), 1))
        both = with_subtree(tree, (0, 0), integer(7))
        self.parts(both, ("unlike", (), 0), ("unlike", (), 1))

    def test_unlike_by_what_names_refer_to(self):
        tree = reading(BOOK, read_tree("(fun (p q) (w 1 p))", BOOK))
        place = (1, 1, 0, 1)
        self.assertEqual(subtree(tree, place), ("name", (), (2,)))
        self.assertEqual(subtree(tree, (1, 1, 2, 1, 1, 1)), ("name", (), (4,)))
        self.parts(with_subtree(tree, place, ("name", (), (1,))), ("unlike", (1,), 1))

    def test_own(self):
        tree = read("(w 5 6)")
        self.parts(with_subtree(tree, (1, 0, 1), ("name", (), (0,))), ("own", (), 1))
        for index in (0, 1, 2):
            self.parts(with_subtree(tree, (1, 2, 1, 1, 1), ("do", (), (("name", (), (index,)),))), ("own", (), 1))
        # A binder of the argument is no own one.
        self.parts(with_subtree(tree, (1, 2, 1, 1, 1), read("(fun (x) x)")), ("unlike", (), 1))

    def test_own_and_unlike_count_places_apart(self):
        # Of two places one needs an own binder; the other one is like itself.
        self.parts(with_subtree(read("(w 5 6)"), (1, 0, 1), ("name", (), (0,))), ("own", (), 1))
        book = Book("word w\nrule a => (let x 1 (list a a a))")
        tree = reading(book, read_tree("(w 5)", book))
        tree = with_subtree(tree, (1, 0), ("name", (), (0,)))
        self.assertEqual([paper_holds(book, tree, (kind, (), 0)) for kind in ("own", "unlike")], [True, False])
        tree = with_subtree(tree, (1, 1), integer(6))
        self.assertEqual([paper_holds(book, tree, (kind, (), 0)) for kind in ("own", "unlike")], [True, True])

    def test_own_in_a_rest_one_by_one(self):
        tree = read("(v 1 2 3 4)")
        for at in range(3):
            self.parts(with_subtree(tree, (1, 1, 1 + at), ("name", (), (0,))), ("own", (), 1 + at))

    def test_count(self):
        mark = (("v", 2, ()),)
        self.holds(("list", mark, (integer(1), integer(2))), ("count", ()))
        # A rest of seven is too long, and `v` with one argument takes another rule.
        mark = lambda *path: (("v", 1, path),)
        name = ("name", mark(1, 1, 0), (0,))
        for length in (0, 7, 12):
            items = (name,) + tuple(integer(at) for at in range(length))
            tree = ("list", mark(), (integer(1), ("fun", mark(1), (1, ("call", mark(1, 1), items)))))
            self.parts(tree, ("count", ()))
        items = (name,) + (name[:1] + ((),) + name[2:],) * 7
        tree = ("list", mark(), (integer(1), ("fun", mark(1), (1, ("call", mark(1, 1), items)))))
        self.parts(tree, ("count", ()), *[("own", (), at) for at in range(1, 8)])

    def test_count_for_words_and_rules_that_the_book_does_not_have(self):
        for mark in (("zz", 0, ()), ("f", 0, ()), ("or", 2, ()), ("for", 1, ())):
            tree = ("list", (), (("do", (mark,), (integer(1),)),))
            self.holds(tree, ("count", (0,)))

    def test_only_if_no_part_holds(self):
        tree = with_subtree(with_subtree(read("(w 1 2)"), (0, 0), integer(3)), (1, 0, 1), ("name", (), (0,)))
        self.assertTrue(paper_holds(BOOK, tree, ("unlike", (), 0)))
        self.assertTrue(paper_holds(BOOK, tree, ("own", (), 1)))
        broken = with_subtree(tree, (0, 1), integer(2))
        self.assertFalse(paper_holds(BOOK, broken, ("unlike", (), 0)))
        self.assertFalse(paper_holds(BOOK, broken, ("own", (), 1)))
        self.assertTrue(paper_holds(BOOK, broken, ("part", (), (0, 1))))
        tree = ("list", (("v", 2, ()),), (integer(1), integer(2)))
        self.assertTrue(paper_holds(BOOK, tree, ("count", ())))
        self.assertFalse(paper_holds(BOOK, ("list", (("v", 2, ()),), (integer(1),) * 3), ("count", ())))

    def test_lost_is_all_that_holds_for_a_mark_inside_of_a_template(self):
        tree = ("do", (("w", 0, (1, 1)),), (integer(1),))
        for kind in KINDS[1:]:
            for paper in ((kind, ()), (kind, (), ()), (kind, (), 0), (kind, (), (0,))):
                self.assertFalse(paper_holds(BOOK, tree, paper))

    def test_places_of_arguments_are_no_parts(self):
        tree = with_subtree(read("(w 1 2)"), (0, 1), integer(2))
        self.assertTrue(paper_holds(BOOK, tree, ("part", (), (0, 1))))
        for path in ((0, 0), (1, 0, 1), (1, 1, 0), (1, 2, 1, 1, 1), (0, 3), (2,), (1, 2, 1, 0), (0, 1, 0), (0, 0, 0)):
            self.assertFalse(paper_holds(BOOK, tree, ("part", (), path)))


class Values(unittest.TestCase):

    def test_values_of_any_kind_and_form(self):
        lost = ("do", (("w", 0, (1, 1)),), (integer(1),))
        part = with_subtree(read("(w 1 2)"), (0, 1), integer(2))
        own = with_subtree(read("(v 1 2 3)"), (1, 1, 1), ("name", (), (0,)))
        unlike = with_subtree(read("(w 1 2)"), (0, 0), integer(2))
        count = ("do", (("zz", 0, ()),), (integer(1),))
        right = ((lost, ("lost", ())), (part, ("part", (), (0, 1))), (own, ("own", (), 1)), (unlike, ("unlike", (), 0)),
                 (count, ("count", ())))
        wrong = [None, True, False, 0, 1, -1, "", "lost", "count", (), [], {}, ((),), ([],), ("lost",), ("count",), ("part", ()),
                 ("unlike", ()), ("own", ()), ("lost", (), ()), ("count", (), 0), ("part", (), (), ()), ("own", (), 1, 1),
                 ["lost", ()], ["count", ()], ("lost", []), ("count", None), ("lost", 0), ("lost", ""), ("lost", ((),)), ("lost", (0.5,)),
                 ("part", (), [0, 1]), ("part", (), 0), ("part", (), None), ("part", [], (0, 1)), ("part", (), (0, True)),
                 ("part", (), (False, 1)), ("part", (), "01"), ("own", (), True), ("own", (), (1,)), ("own", (), "1"), ("own", (), None),
                 ("own", (), -1), ("own", (), -2), ("unlike", (), False), ("unlike", (), -2), ("unlike", (), ()), ("unlike", (), 2),
                 ("own", (), 3), ("own", (), 10 ** 20), ("Lost", ()), ("losts", ()), (b"lost", ()), (0, ()), (None, ()), ((), ()),
                 ("lost", (-1,)), ("lost", (9,)), ("count", (0, 0)), ("lost", (True,)), ("part", (), (-2, 1)), ("part", (), (0, -2)),
                 object(), object, 1.5, 2j, {"lost": ()}, ("lost", {}), ("lost", ("lost", ())), (("lost", ()),), frozenset(), range(2),
                 ("part", (), (0, 10 ** 20)), ("part", (10 ** 20,), (0, 1)), ("hidden", ()), ("shown",)]
        for tree, paper in right:
            self.assertIs(paper_holds(BOOK, tree, paper), True)
            self.assertIs(paper_holds(value=paper, tree=tree, book=BOOK), True)
            for _, other in right:
                self.assertIs(paper_holds(BOOK, tree, other), other == paper)
            for value in wrong:
                self.assertIs(paper_holds(BOOK, tree, value), False, value)
        for value in wrong + [paper for _, paper in right]:
            self.assertIs(paper_holds(BOOK, read("(or 1 2)"), value), False)
        self.assertEqual(why_hidden(tree=lost, book=BOOK), ("lost", ()))

    def test_against_the_model(self):
        kinds = set()
        for book in samples.books():
            model = Model(book)
            for seed in range(60):
                maker = samples.Maker(book, 2000 + seed)
                tree = reading(book, maker.tree(2 + seed % 4))
                if count(tree) > 300:
                    continue
                tree = changed(tree, maker)
                back = turned(book, tree)
                papers = set(model.papers(tree))
                why = why_hidden(book, tree)
                self.assertEqual(why is None, is_turned(back))
                self.assertEqual(why is None, not papers)
                for paper in papers:
                    kinds.add(paper[0])
                    self.assertTrue(paper_holds(book, tree, paper))
                if why is not None:
                    self.assertIn(why, papers)
                places = maker.random.sample(sorted(paths(back)), min(8, count(back))) + [paper[1] for paper in papers][:4]
                inner = {()} | {paper[2] for paper in papers if paper[0] == "part"}
                for path in places:
                    values = [("lost", path), ("count", path)] + [("part", path, q) for q in inner]
                    values += [(kind, path, number) for kind in ("unlike", "own") for number in range(4)]
                    for value in values:
                        self.assertEqual(paper_holds(book, tree, value), value in papers)
        self.assertEqual(kinds, set(KINDS))


class AskedOften(unittest.TestCase):
    """What is asked about one tree again and again is quick, and is told as it is by a book that was asked nothing."""

    def setUp(self):
        self.maker = samples.Maker(BOOK, 11)
        self.trees = [changed(reading(BOOK, self.maker.tree(4)), self.maker) for _ in range(12)]
        self.trees += [("list", (), (integer(1), tree)) for tree in self.trees[:6]]

    def values(self, tree):
        for path in sorted(paths(turned(BOOK, tree)))[:6]:
            yield from (("lost", path), ("count", path), ("part", path, ()), ("part", path, (1,)), ("own", path, 0),
                        ("unlike", path, 1), ("lost", path + (9,)), None, ("own", path), ("lost", (True,)))

    def test_a_tree_is_turned_back_once_for_many_values(self):
        book = Book(BOOK.text)
        tree = ("do", (), (read("(or 1 2 3)"),))
        inner = with_subtree(tree, (0, 0), read("(for x 1 (w x x))"))
        with mock.patch.object(papers_module, "turned_back", wraps=papers_module.turned_back) as turning:
            for one in (tree, inner, tree[2][0], ("list", (), (inner, inner))):
                before = turning.call_count
                why_hidden(book, one)
                for value in list(self.values(one)) * 3:
                    paper_holds(book, one, value)
                self.assertLessEqual(turning.call_count, before + 1)

    def test_the_same_whatever_was_asked_in_between(self):
        asked = [(tree, value) for tree in self.trees for value in self.values(tree)]
        fresh = {}
        for at, (tree, value) in enumerate(asked):
            book = Book(BOOK.text)
            fresh[at] = (why_hidden(book, tree), paper_holds(book, tree, value))
        for seed in range(3):
            order = list(range(len(asked)))
            samples.random.Random(seed).shuffle(order)
            for at in order:
                tree, value = asked[at]
                self.assertEqual(paper_holds(BOOK, tree, value), fresh[at][1])
                self.assertEqual(why_hidden(BOOK, tree), fresh[at][0])

    def test_a_book_with_more_clear_nodes_is_asked_by_itself(self):
        book = Book(OR.replace("*", ""))
        tree = reading(book, read_tree("(or 1 2)", book))
        self.assertIsNone(why_hidden(book, tree))
        clear = book.with_clear("or", 1, (1, 2))
        self.assertEqual(why_hidden(clear, tree), why_hidden(Book(OR), tree))
        self.assertIsNotNone(why_hidden(clear, tree))
        self.assertIsNone(why_hidden(book, tree))

    def test_equal_trees_that_are_deeper_than_python_compares(self):
        def deep():
            tree = subtree(read("(or 1 2)"), (1,))
            for _ in range(700):
                tree = ("do", (), (tree,))
            return tree

        for _ in range(2):
            self.assertEqual(why_hidden(BOOK, deep()), ("lost", (0,) * 700))
            self.assertTrue(paper_holds(BOOK, deep(), ("lost", (0,) * 700)))
            self.assertFalse(paper_holds(BOOK, deep(), ("lost", (0,) * 699)))


if __name__ == "__main__":
    unittest.main()
