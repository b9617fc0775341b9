"""[31]: folding."""

import itertools
import unittest

from saidanew.books import Book
from saidanew.folding import fold, folded, folds
from saidanew.programs import Program
from saidanew.reading import reading
from saidanew.stepper import Stepper
from saidanew.steps import settled
from saidanew.texts import read_tree, show_tree
from saidanew.trees import bared, count, is_tree
from tests import programs, samples
from tests.changes import changed
from tests.kinding import all_nodes
from tests.samples import FOR, OR

NESTED = Book("""word inner
rule a => (list a (do 1))
word outer
rule a b => (seq (list a (do 1)) (fun (x) (list x b)))
word whole
rule a => (seq (list a (do 1)) (fun (x) (list x (do 1))))
word dup
rule a => (list a a)
rule a b => (list a b a)
word keep
rule !x a b => (let x a (seq x b))
word two
rule !x !y a b => (call (fun (y x) (list a b b)) 1 2)
word all
rule ..r => (list ..r)
rule a => (do a)
word late
rule a b => (let t a (list t b))
word both
rule !x a b => (do *(dup *(keep x a b)))
fun f (x) => x""")
LOOP = Book(FOR)


def read(text, book=NESTED):
    return bared(reading(book, read_tree(text, book)))


def has(tree, *heads):
    return any(node[0] in heads for node in all_nodes(tree))


class Uses(unittest.TestCase):

    def test_the_document_s_example(self):
        tree = read_tree("(for y 3 (plus y 1))", LOOP)
        self.assertEqual(folded(LOOP, bared(reading(LOOP, tree))), tree)

    def found(self, text, *uses, book=NESTED):
        """These uses and no others read as the tree; each one is written here."""
        tree = read(text, book)
        wanted = {}
        for use in uses:
            one = read_tree(use, book)
            wanted[one[2][:2]] = one
            self.assertEqual(bared(reading(book, one)), tree)
        with self.subTest(text):
            pairs = [(word, n) for word in book.words for n in range(11) if (word, n) in wanted]
            self.assertEqual(folds(book, tree), tuple(pairs))
            for word in book.words + ("nobody", "", "list"):
                for n in range(12):
                    self.assertEqual(fold(book, tree, word, n), wanted.get((word, n)))

    def test_fold_and_folds(self):
        self.found("(list 5 (do 1))", "(inner 5)", "(all 5 (do 1))")
        self.found("(list 5 5)", "(dup 5)", "(all 5 5)")
        self.found("(list 5 6 5)", "(dup 5 6)", "(all 5 6 5)")
        self.found("(list 5 6 7)", "(all 5 6 7)")
        self.found("(list)", "(all)")
        # Of `all` the second rule is taken by no use.
        self.found("(list 1)", "(all 1)")
        self.found("(do 1)")
        self.found("(list 1 2 3 4 5 6 7)")
        self.found("(seq (list 2 (do 1)) (fun (x) (list x 3)))", "(outer 2 3)")
        self.found("(seq (list 2 (do 1)) (fun (x) (list x (do 1))))", "(outer 2 (do 1))", "(whole 2)")
        self.found("(seq (list 2 (do 1)) (fun (x) (list x x)))")
        self.found("(let x 1 (seq x (plus x x)))", "(keep x 1 (plus x x))")
        self.found("(let x 1 (seq 1 2))")
        self.found("1")
        self.found("f")
        self.found("(fun (x) x)")
        self.found("(call f 1)")
        self.found("(let y 5 (list y 6))", "(late 5 6)")
        self.found("(let y 5 (list y y))")
        self.found("(let y 5 (list y (fun (z) (list z (let y z y)))))", "(late 5 (fun (z) (list z (let y z y))))")

    def test_arguments_that_stand_several_times_in_scopes(self):
        self.found("(call (fun (p q) (list (plus q p) (do q) (do q))) 1 2)", "(two q p (plus q p) (do q))")
        self.found("(call (fun (p q) (list (plus q p) (do q) (do p))) 1 2)")
        self.found("(do (list (let x 1 (seq x (do x))) (let y 1 (seq y (do y)))))", "(both z 1 (do z))")
        self.found("(do (list (let x 1 (seq x (do x))) (let y 1 (seq y (do 1)))))")
        self.found("(do (list (let x 1 (seq x (do x))) (let y 2 (seq y (do y)))))")
        self.found("(do (list (let x 1 (seq x (fun (y) (list x y)))) (let y 1 (seq y (fun (x) (list y x))))))",
                   "(both z 1 (fun (p) (list z p)))")
        self.found("(do (list (let x 1 (seq x (fun (y) (list x y)))) (let y 1 (seq y (fun (x) (list x y))))))")

    def test_names_around(self):
        for text, wanted in (("(fun (z) (list z z))", "(fun (z) (dup z))"), ("(fun (p q) (list p q p))", "(fun (p q) (dup p q))"),
                             ("(fun (p) (let t p (list t (plus p 1))))", "(fun (p) (late p (plus p 1)))"),
                             ("(fun (p) (let x 2 (seq x (list x p x))))", "(fun (p) (keep x 2 (dup x p)))"),
                             ("(let x 2 (seq x (let y x (seq y (list x y x)))))", "(keep x 2 (keep y x (dup x y)))")):
            with self.subTest(text):
                self.assertEqual(folded(NESTED, read(text)), read_tree(wanted, NESTED))

    def test_a_use_has_core_and_bare_arguments(self):
        tree = read("(dup (inner (dup 1)))")
        use = fold(NESTED, tree, "dup", 1)
        self.assertEqual(use, ("use", (), ("dup", 1, read("(inner (dup 1))"))))
        self.assertEqual(fold(tree=tree, n=1, word="dup", book=NESTED), use)
        self.assertEqual(folds(tree=tree, book=NESTED), (("dup", 1), ("all", 2)))

    def test_clear_nodes_make_no_difference(self):
        book = Book(OR)
        for text in ("(or 1 2)", "(or true (or 1) 3)", "(let t 1 (if t t (do 2)))"):
            self.assertEqual(folded(book, read(text, book)), folded(Book(OR.replace("*", "")), read(text, book)))


class Fewest(unittest.TestCase):

    def test_words_one_inside_of_the_other(self):
        for text, wanted in (("(seq (list 2 (do 1)) (fun (x) (list x (do 1))))", "(whole 2)"),
                             ("(seq (list 2 (do 1)) (fun (x) (list x 3)))", "(outer 2 3)"),
                             ("(plus (list 2 (do 1)) 1)", "(plus (inner 2) 1)"), ("(list (inner 1) (inner 1))", "(dup (inner 1))"),
                             ("(plus 1 2)", "(plus 1 2)"), ("(do 5)", None), ("(list 7 8)", None), ("f", "f")):
            with self.subTest(text):
                tree = read(text)
                if wanted is None:
                    self.assertEqual(count(folded(NESTED, tree)), count(tree))
                else:
                    self.assertEqual(folded(NESTED, tree), read_tree(wanted, NESTED))

    def test_uses_that_only_together_are_shorter(self):
        # The use of `wrap` is as long as what it reads as, but in it `pair` has less to say.
        book = Book("word pair\nrule a => (list a a a)\nword wrap\nrule a b => (let t (do a) (seq t b))")
        for text, wanted in (("(let t (do (pair 1)) (seq t (pair 2)))", "(wrap (pair 1) (pair 2))"),
                             ("(list (wrap 1 2) (wrap 1 2) (wrap 1 2))", "(pair (wrap 1 2))")):
            self.assertEqual(folded(book, read(text, book)), read_tree(wanted, book))
        book = Book("word one\nrule a b => (seq a b)\nword twice\nrule a => (list (seq a 1) (seq a 1))\nrule a b => (list a b b a)")
        self.assertEqual(count(folded(book, read("(list (seq 5 1) (seq 5 1))", book))), 2)
        self.assertEqual(folded(book, read("(list (twice 3) 1 1 (twice 3))", book)), read_tree("(twice (twice 3) 1)", book))

    def test_nodes_are_counted_and_not_uses(self):
        book = Book("word s\nrule a => (seq a 1)\nword big\nrule a => (seq (seq (seq (seq a 1) 1) 1) 1)\nword p\nrule a => (do (do (seq a 1)))")
        self.assertEqual(folded(book, read("(p (s (s (s 2))))", book)), read_tree("(do (do (big 2)))", book))
        self.assertEqual(folded(book, read("(p (s (s 2)))", book)), read_tree("(p (s (s 2)))", book))

    def test_readings_of_random_trees(self):
        shorter = 0
        for book in samples.books() + [programs.BOOK, NESTED]:
            for seed in range(60):
                maker = samples.Maker(book, 7000 + seed)
                use = maker.tree(2 + seed % 4)
                tree = bared(reading(book, use))
                if count(tree) > 250:
                    continue
                if seed % 3 == 0:
                    tree = bared(changed(tree, maker))
                if has(tree, "made", "ref"):
                    continue
                found = folded(book, tree)
                self.assertTrue(is_tree(found))
                self.assertEqual(found, bared(found))
                self.assertEqual(bared(reading(book, found)), tree)
                self.assertLessEqual(count(found), count(tree) if seed % 3 == 0 else count(use))
                shorter += count(found) < count(tree)
                self.uses_agree(book, tree)
        self.assertGreater(shorter, 80)

    def uses_agree(self, book, tree):
        pairs = folds(book, tree)
        for word in book.words:
            for n in range(11):
                use = fold(book, tree, word, n)
                self.assertEqual(use is not None, (word, n) in pairs)
                if use is not None:
                    self.assertEqual(use[2][:2], (word, n))
                    self.assertEqual(bared(reading(book, use)), tree)
                    self.assertFalse(has(("list", (), use[2][2:]), "use"))

    def test_no_text_with_fewer_nodes_reads_as_the_tree(self):
        """All small trees are tried."""
        books = [Book(OR + "\n" + FOR), NESTED, samples.books()[3], Book(
            "word a\nrule a b => (seq a b)\nrule a => (do (do a))\nword b\nrule a => (do (seq a (do a)))\nrule ..r => (list ..r)\n"
            "word c\nrule !x a b => (let x (do a) (do b))\nrule !x a => (fun (x) (seq a a))")]
        for book in books:
            least = {}
            small = Small(book)
            for size in range(1, 5):
                for tree in small.trees(size, 0):
                    least.setdefault(bared(reading(book, tree)), size)
            chosen = list(least.items())
            for tree, size in chosen[:400] + chosen[400::29]:
                found = folded(book=book, tree=tree)
                self.assertEqual(count(found), size, show_tree(tree, book))
                self.assertEqual(bared(reading(book, found)), tree)


class Small:
    """All small trees over a book, of the heads and numbers of items that are in its templates."""

    def __init__(self, book):
        self.book = book
        self.uses, self.heads, self.leaves = [], {}, {("int", (), (1,)), ("flag", (), (True,))}
        for word in book.words:
            for n in range(4):
                if book.rule(word, n) is not None:
                    self.uses.append((word, n))
                    mark = ("quote", (), ("mark",))
                    tree = bared(reading(book, ("use", (), (word, n) + (mark,) * len(book.scopes(word, n)))))
                    for node in all_nodes(tree):
                        if node[0] in ("int", "quote", "flag", "global"):
                            self.leaves |= {node} - {mark}
                        elif node[0] != "name":
                            plain = tuple(item for item in node[2] if not isinstance(item, tuple))
                            self.heads[node[0], plain, len(node[2]) - len(plain)] = True
        self.known = {}

    def trees(self, size, free):
        if (size, free) not in self.known:
            self.known[size, free] = list(self.made(size, free))
        return self.known[size, free]

    def made(self, size, free):
        if size == 1:
            yield from sorted(self.leaves, key=str)
            yield from (("name", (), (at,)) for at in range(free))
        for head, plain, many in self.heads:
            overs = [plain[0]] if head == "fun" else [0, 1] if head in ("let", "try") else [0] * many
            yield from ((head, (), plain + items) for items in self.items(size - 1, overs, free))
        for word, n in self.uses:
            overs = [len(scope) for scope in self.book.scopes(word, n)]
            yield from (("use", (), (word, n) + items) for items in self.items(size - 1, overs, free))

    def items(self, size, overs, free):
        if not overs:
            return [()] if size == 0 else []
        found = []
        for sizes in itertools.product(range(1, size + 1), repeat=len(overs)):
            if sum(sizes) == size:
                found += itertools.product(*[self.trees(one, free + over) for one, over in zip(sizes, overs)])
        return found


class Guarantees(unittest.TestCase):

    def test_a_folded_text_runs_alike(self):
        """[4]: it reads as the expression, inks aside; so its run has the same states, inks aside."""
        many = 0
        for program in programs.programs():
            term = bared(program.start.term)
            if has(term, "ref", "made"):
                continue
            text = show_tree(folded(program.book, term), program.book, program.functions)
            again = Program(program.book, programs.OWN + "run " + text)
            self.assertEqual(bared(again.start.term), term)
            one, other = Stepper(program), Stepper(again)
            for stepper in (one, other):
                stepper.forth(300)
            bare = [[settled(bared(state.term), [bared(value) for value in state.cells]) for state in stepper] for stepper in (one, other)]
            self.assertEqual(*bare)
            self.assertEqual(one.said, other.said)
            many += 1
        self.assertGreater(many, 20)

    def test_bounds(self):
        book = Book("word pair\nrule a => (list a a)\n" + FOR)
        tree = read_tree("1", book)
        for _ in range(8):
            tree = ("use", (), ("pair", 1, tree))
        whole = bared(reading(book, tree))
        self.assertEqual(count(whole), 511)
        self.assertEqual(folded(book, whole), tree)
        deep = ("name", (), (0,))
        for _ in range(22):
            deep = ("use", (), ("for", 3, ("int", (), (1,)), deep))
        core = bared(reading(book, deep))
        self.assertEqual(folded(book, core), deep)

    def test_many_ways_to_fold_take_no_time(self):
        # Each level may be folded or not, and each choice counts the names below differently.
        book = Book("word late\nrule a b => (let t a (seq t b))\nword also\nrule a b => (let t (seq a 1) b)\nword some\nrule a b => (let t a (do b))")
        tree = read_tree("(fun (p q r s) (list p q r s))", book)
        text = "(list pa pb pc pd)"
        names = ["pa", "pb", "pc", "pd"]
        for at in range(20):
            text = f"(let t 1 (do {text}))" if at % 4 else f"(let {names[at // 5]} 2 (do (seq {names[at // 5]} {text})))"
        tree = bared(reading(book, read_tree(text, book)))
        found = folded(book, tree)
        self.assertEqual(bared(reading(book, found)), tree)
        self.assertLess(count(found), count(tree))


if __name__ == "__main__":
    unittest.main()
