"""[2], [3]: what holds for all functions, and the bounds."""

import copy
import unittest

from saidanew.books import Book
from saidanew.changes import clear_ink, cleared, renamed_tree
from saidanew.desk import Desk
from saidanew.errors import NoBook, NoKind, NoLine, NoText, NoTree
from saidanew.folding import fold, folded, folds
from saidanew.kinds import kind_of, kind_of_function, kind_of_state, rule_kind
from saidanew.papers import paper_holds, why_hidden
from saidanew.programs import Program
from saidanew.reading import is_turned, reading, turned
from saidanew.steps import State, line_of, outcome, settled, state_of, step
from saidanew.texts import read_tree, show_tree
from saidanew.trees import bared, count, is_tree, subtree, with_subtree
from tests import samples
from tests.samples import FOR, OR


def integer(number):
    return ("int", (), (number,))


def deep(tree, many, head="do"):
    for _ in range(many):
        tree = (head, (), (tree,))
    return tree


class Unchanged(unittest.TestCase):

    def test_the_same_call_returns_an_equal_result_whatever_is_called_in_between(self):
        book = Book(samples.TEXTS[4])
        program = Program(book, "fun ff (x) => (w x x 1)\nrun (call ff (cell 2))")
        maker = samples.Maker(book, 7)
        trees = [maker.tree(4) for _ in range(12)]

        def results():
            found = []
            for tree in trees:
                core = reading(book, tree)
                state = State(core)
                found += [core, turned(book, core), show_tree(tree, book), why_hidden(book, core), line_of(program, state),
                          outcome(state), paper_holds(book, core, ("lost", ()))]
                found.append(step(program, state)[0].term if outcome(state) is None else None)
            return found

        first = results()
        for word in book.words:
            for n in range(8):
                book.rule(word, n), book.names(word, n), book.scopes(word, n)
        other = book.with_clear("k", 0, (1,))
        for tree in trees:
            reading(other, tree)
            other.renamed({"k": "kk"})
        for text in ("(no", "(w 1 (no))", "(w 1 2 3"):
            for wrong in (lambda: read_tree(text, book), lambda: state_of(program, text), lambda: Book("word w\n" + text)):
                self.assertRaises((NoText, NoTree, NoBook), wrong)
        self.assertEqual(results(), first)

    def test_templates_of_other_lengths_do_not_change_those_that_are_used(self):
        book = Book(OR)
        wide = ("list", (("or", 1, ()),), tuple(integer(at) for at in range(900)))
        before = reading(book, read_tree("(or 1 2 3)", book))
        self.assertEqual(turned(book, wide), wide)
        self.assertEqual(why_hidden(book, wide)[0], "part")
        self.assertEqual(reading(book, read_tree("(or 1 2 3)", book)), before)
        self.assertEqual(Book(OR), book)

    def test_a_book_with_more_clear_nodes_reads_by_its_own_templates(self):
        book = Book(OR.replace("*", ""))
        tree = read_tree("(or 1 2)", book)
        first = reading(book, tree)
        clear = book.with_clear("or", 1, (1, 2))
        self.assertEqual(reading(clear, tree), reading(Book(OR), tree))
        self.assertNotEqual(reading(clear, tree), first)
        self.assertEqual(reading(book, tree), first)
        self.assertIsNone(why_hidden(book, first))
        self.assertIsNotNone(why_hidden(clear, first))

    def test_what_is_passed_is_not_changed(self):
        book = Book(FOR)
        program = Program(book, "run 1")
        names = ("f", "g")
        tree = read_tree("(for x (cell f) (list x g))", book, names)
        core = reading(book, tree)
        state = State(core, ())
        copies = copy.deepcopy((tree, core, names, state.term, state.cells))
        paper = ("lost", ())
        reading(book, tree), turned(book, core), show_tree(tree, book, names), paper_holds(book, core, paper), step(program, state)
        line_of(program, state), settled(core, ()), why_hidden(book, core)
        self.assertEqual((tree, core, names, state.term, state.cells), copies)

    def test_a_refused_call_changes_nothing(self):
        book = Book(OR)
        program = Program(book, "run (or true false)")
        before = (book.text, program.start, line_of(program, program.start))
        for text in ("(or", "(or x)", "#1", "1 where", ""):
            with self.assertRaises((NoText, NoTree, NoLine)):
                state_of(program, text)
        self.assertEqual((book.text, program.start, line_of(program, program.start)), before)


class Calls(unittest.TestCase):

    def test_arguments_given_by_name(self):
        book = Book(text=OR)
        program = Program(book=book, text="run (or true false)")
        tree = read_tree(text="(or 1)", book=book, functions=())
        self.assertEqual(show_tree(tree=tree, book=book, functions=()), "(or 1)")
        core = reading(book=book, tree=tree)
        self.assertEqual(turned(book=book, tree=core), tree)
        self.assertFalse(is_turned(tree=core))
        self.assertIsNone(why_hidden(book=book, tree=core))
        self.assertFalse(paper_holds(book=book, tree=core, value=None))
        state = State(term=core, cells=())
        self.assertEqual(settled(term=core, cells=()), state)
        self.assertEqual(step(program=program, state=state)[0], State(integer(1)))
        self.assertIsNone(outcome(state=state))
        self.assertEqual(line_of(program=program, state=state), "(or 1)")
        self.assertEqual(state_of(program=program, text="(or 1)"), state)
        self.assertRaises(KeyError, lambda: program.body(f="g"))

    def test_arguments_of_kinds_folding_changes_and_the_desk_by_name(self):
        book = Book(OR + "\n" + FOR + "\nfun f (x) => x")
        program = Program(book, "run (or 1)")
        tree = read_tree("(or true false)", book)
        self.assertEqual(kind_of(program=program, tree=tree), "flag")
        self.assertEqual(kind_of_function(program=program, f="f"), "fun (a) a")
        self.assertEqual(kind_of_state(program=program, state=program.start), "num")
        self.assertEqual(rule_kind(book=book, word="or", n=1), (((("a", ()),),), "a"))
        core = bared(reading(book, tree))
        self.assertEqual(folded(book=book, tree=core), tree)
        self.assertEqual(folds(book=book, tree=core), (("or", 2),))
        self.assertEqual(fold(book=book, tree=core, word="or", n=2), tree)
        other = book.with_clear(word="for", rule=0, path=(0,))
        ink = (("for", 0, (0,)),)
        self.assertEqual(clear_ink(book=book, other=other, ink=ink), ())
        self.assertEqual(cleared(book=book, other=other, tree=("do", ink, (integer(1),))), ("do", (), (integer(1),)))
        self.assertEqual(book.renamed(names={"or": "either"}).words, ("either", "for"))
        self.assertEqual(renamed_tree(tree=tree, names={"or": "either"})[2][0], "either")
        self.assertEqual(Desk().say(row="book"), "")
        with Desk().trial() as desk:
            self.assertEqual(desk.say("run 1"), "1")

    def test_kinds_folds_and_the_desk_are_told_the_same_whatever_is_called_in_between(self):
        def results():
            found = []
            for text in samples.TEXTS:
                book = Book(text)
                maker = samples.Maker(book, 3)
                tree = bared(reading(book, maker.tree(4, has_uses=True)))
                found.append([self.told_kind(book, *use) for use in maker.uses])
                if "made" not in str(tree):
                    found += [folds(book, tree), count(folded(book, tree))]
            return found

        first = results()
        book = Book(samples.TEXTS[4])
        desk = Desk()
        for row in ("word k ; rule a => (do a)", "run (k 1)", "kind", "next", "change (k 2)", "undo"):
            desk.say(row)
        for word in book.words:
            for n in range(8):
                self.told_kind(book, word, n)
        self.assertEqual(results(), first)

    def told_kind(self, book, word, n):
        try:
            return rule_kind(book, word, n)
        except NoKind:
            return "unfit"

    def test_what_is_passed_is_not_changed_by_kinds_folding_and_changes(self):
        book = Book(OR + "\n" + FOR)
        names = {"or": "either", "for": "or"}
        tree = bared(reading(book, read_tree("(for x 1 (or x 2))", book)))
        state = Program(book, "run (list (get #1) (or 1)) where #1 = 2").start
        copies = copy.deepcopy((names, tree, state.term, state.cells))
        folded(book, tree), folds(book, tree), fold(book, tree, "for", 3), renamed_tree(tree, names), cleared(book, book, tree)
        book.renamed(names)
        kind_of_state(Program(book, "run 1"), state)
        self.assertEqual((names, tree, state.term, state.cells), copies)

    def test_programs(self):
        book = Book(OR + "\nfun one () => 1")
        program = Program(book, "\n fun g (x y) => (or x y [])\n\nfun a () => one\n run  (call g #2 3) where #2 = 'a \n")
        self.assertEqual(program.book, book)
        self.assertEqual(program.functions, ("a", "g"))
        self.assertEqual(line_of(program, program.start), "(call g #1 3) where #1 = 'a")
        self.assertEqual(program.body("one"), (0, integer(1)))
        self.assertEqual(program.body("a"), (0, ("global", (), ("one",))))
        self.assertEqual(program.body("g")[0], 2)
        self.assertEqual(bared(turned(book, program.body("g")[1])),
                         ("use", (), ("or", 3, ("name", (), (1,)), ("name", (), (0,)), ("made", (), ()))))
        self.assertEqual(program, Program(book, "fun a () => one\nfun g (p q) => (or p q [])\nrun (call g #1 3) where #1 = 'a"))
        self.assertNotEqual(program, Program(book, "fun a () => one\nfun g (p q) => (or q p [])\nrun (call g #1 3) where #1 = 'a"))
        for other in (book, "run 1", None, program.start, Program(book, "run 1")):
            self.assertFalse(program == other)


class Bounds(unittest.TestCase):

    def test_readings_of_2600_nodes_that_nest_60_deep(self):
        book = Book("word eight\nrule a => (list a a a a a a a a)\nword deep\nrule a => (do (do (do (do (do (do (do a)))))))")
        tree = read_tree("(eight (eight (eight (list 1 2 3))))", book)
        core = reading(book, tree)
        self.assertEqual(count(core), 8 * 8 * 8 * 4 + 64 + 8 + 1)
        self.assertEqual(turned(book, core), tree)
        tree = ("use", (), ("deep", 1, integer(1)))
        for _ in range(8):
            tree = ("use", (), ("deep", 1, tree))
        core = reading(book, tree)
        self.assertEqual(count(core), 64)
        self.assertEqual(turned(book, core), tree)
        self.assertEqual(read_tree(show_tree(tree, book), book), tree)

    def test_what_was_returned_may_be_passed_on_whatever_its_size(self):
        book = Book("word eight\nrule a => (list a a a a a a a a)\n" + OR)
        program = Program(book, "run 1")
        tree = read_tree("(fun (x) (eight (eight (eight (or x 1 (list x))))))", book)
        core = reading(book, tree)
        self.assertGreater(count(core), 5000)
        whole = deep(("seq", (), (deep(core, 150), core)), 150, "say")
        back = turned(book, whole)
        self.assertEqual(back, deep(("seq", (), (deep(tree, 150), tree)), 150, "say"))
        self.assertEqual(reading(book, back), whole)
        self.assertTrue(is_turned(back))
        self.assertIsNone(why_hidden(book, whole))
        line = line_of(program, State(whole))
        self.assertEqual(state_of(program, line), State(whole))
        self.assertEqual(step(program, State(whole))[0], State(deep(("seq", (), (deep(core, 149), core)), 150, "say")))

    def test_deep_trees(self):
        book = Book(OR)
        program = Program(book, "run 1")
        tree = deep(("use", (), ("or", 2, integer(1), ("use", (), ("or", 1, integer(2))))), 400)
        core = reading(book, tree)
        self.assertEqual(turned(book, core), tree)
        self.assertTrue(is_tree(core))
        self.assertEqual(with_subtree(core, (0,) * 400, subtree(tree, (0,) * 400)), tree)
        self.assertEqual(count(bared(core)), count(core))
        self.assertEqual(state_of(program, line_of(program, State(core))), State(core))
        self.assertEqual(settled(deep(("ref", (), (2,)), 400), (integer(1), integer(2))), State(deep(("ref", (), (1,)), 400), (integer(2),)))
        part = subtree(core, (0,) * 400 + (1,))
        self.assertEqual(why_hidden(book, deep(("let", (), (integer(1), part)), 300)), ("lost", (0,) * 300 + (1,)))
        fun = deep(("name", (), (0,)), 300)
        self.assertEqual(step(program, State(("let", (), (deep(integer(1), 1), fun))))[0].term, ("let", (), (integer(1), fun)))
        self.assertEqual(step(program, State(("let", (), (integer(1), fun))))[0].term, deep(integer(1), 300))

    def test_long_texts_and_many_items(self):
        book = Book("")
        items = " ".join(str(at) for at in range(2500))
        for text in (f"(list {items})", f"[{items}]", f"(call {items})"):
            tree = read_tree(text, book)
            self.assertEqual(count(tree), 2501)
            self.assertEqual(show_tree(tree, book), text)

    def test_many_cells(self):
        program = Program(Book(""), "run 1")
        many = range(1, 60)
        line = "[" + " ".join(f"#{at}" for at in many) + "] where " + " , ".join(f"#{at} = #{60 - at}" for at in many)
        state = state_of(program, line)
        self.assertEqual(len(state.cells), 59)
        self.assertEqual(line_of(program, state), line)


if __name__ == "__main__":
    unittest.main()
