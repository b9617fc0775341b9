"""Books and random trees for the tests; the same seed gives the same ones."""

import random

from saidanew.books import Book

OR = "word or\nrule a => (do a)\nrule a ..r => (let t a (if t t *(or ..r)))"
FOR = "word for\nrule !x a b => (call (fun (x) b) a)"
# Words of every sort: name arguments, rests, clear nodes, several places, own binders, uses in templates.
TEXTS = (
    OR,
    FOR,
    OR + "\n" + FOR + "\nfun f (x y) => (or x (for z y (plus z 1)))",
    """word for
rule !x a b => (call (fun (x) (let oa (plus b 1) (if oa b 2))) a)
rule a => (do (list a (plus a 3) (times a a) (not true)))
word or
rule !x a b => (let x (do a) (let oa (do x) (try (plus oa b) ob b)))
word w
rule a b c => (list (or x a (or y b c)) (for p (for q a b) *(do c)))
fun x () => 1
fun y () => 2""",
    """word all
rule ..r => (list ..r)
word k
rule !x !y a b => (fun (y z x) (seq (list a z b x) (fun (t) *(list b y (all b b t)))))
word two
rule a !b c !d => (let b a *(k d q 1 (list b q (fun (u) c))))
rule a b c d => (list a b c d)
rule a => (fun () *(seq a (all)))
word w
rule a b => (seq a b)
rule a ..r => (do *(list a 'red -7 (all ..r)))
rule ..r => (call f ..r)
rule a b => (seq b a)
word v
rule a b ..r => (call (fun (x y) *(list x b y b a (all ..r))) f b)
fun f (a b) => (k p q a (w p b))""",
    """word thunk
rule a => (fun () a)
word unless
rule a b c => (if *(not *(do a)) b *(if a *(thunk c) b))
word twice
rule !x a b => (let x *(thunk a) (seq (try b q b) x))
rule a !x b => (try (thunk a) e (let x e b))
word for
rule !i a b => (let i a b)
word loop
rule !x !y a b c => (do *(for x a *(for y b (let s (list c c) (thunk *(put c s))))))""",
)
ONE = ("do", "not", "first", "rest", "none", "cell", "get", "raise", "say")
TWO = ("seq", "plus", "minus", "times", "less", "same", "put", "set")


def books():
    return [Book(text) for text in TEXTS]


class Maker:
    """Makes random trees over a book."""

    def __init__(self, book, seed, functions=()):
        self.book = book
        self.random = random.Random(seed)
        self.functions = book.functions + tuple(functions)
        self.uses = []
        for word in book.words:
            for n in range(9):
                if book.rule(word, n) is not None:
                    self.uses.append((word, n))
        self.funs = [use for use in self.uses if self.is_fun(*use)]

    def is_fun(self, word, n):
        rows = self.book.text.split("\n")
        rules = [row for row in rows[rows.index("word " + word):] if row.startswith("rule ")]
        return "=> (fun " in rules[self.book.rule(word, n)]

    def tree(self, deep, free=0, has_uses=True, has_cells=0):
        """A bare tree below so many binders, nested at most so deep."""
        choose = self.random
        if deep <= 1 or choose.random() < 0.1:
            return self.leaf(free, has_cells)
        more = (deep - 1, free, has_uses, has_cells)
        under = (deep - 1, free + 1, has_uses, has_cells)
        kind = choose.randrange(14 if has_uses else 9)
        if kind == 0:
            return (choose.choice(ONE), (), (self.tree(*more),))
        if kind == 1:
            return (choose.choice(TWO), (), (self.tree(*more), self.tree(*more)))
        if kind == 2:
            return (choose.choice(("let", "try")), (), (self.tree(*more), self.tree(*under)))
        if kind == 3:
            return ("if", (), (self.tree(*more), self.tree(*more), self.tree(*more)))
        if kind == 4:
            return self.fun(deep, free, has_uses, has_cells)
        if kind == 5:
            return ("list", (), tuple(self.tree(*more) for _ in range(choose.randrange(4))))
        if kind == 6:
            return ("call", (), tuple(self.tree(*more) for _ in range(choose.randrange(1, 4))))
        if kind == 7:
            return self.made(deep, has_uses, has_cells)
        if kind == 8:
            return self.leaf(free, has_cells)
        return self.use(choose.choice(self.uses), deep, free, has_cells)

    def fun(self, deep, free, has_uses, has_cells):
        many = self.random.randrange(5)
        return ("fun", (), (many, self.tree(deep - 1, free + many, has_uses, has_cells)))

    def use(self, use, deep, free, has_cells):
        items = [self.tree(deep - 1, free + len(scope), True, has_cells) for scope in self.book.scopes(*use)]
        return ("use", (), (*use, *items))

    def made(self, deep, has_uses, has_cells):
        return ("made", (), tuple(self.value(deep - 1, has_uses, has_cells) for _ in range(self.random.randrange(3))))

    def value(self, deep, has_uses=True, has_cells=0):
        """A closed value, or a use that reads as one."""
        kind = self.random.randrange(4)
        if kind == 0 and deep > 1:
            return self.made(deep, has_uses, has_cells)
        if kind == 1 and deep > 1:
            return self.fun(deep, 0, has_uses, has_cells)
        if kind == 2 and has_uses and self.funs:
            return self.use(self.random.choice(self.funs), deep, 0, has_cells)
        return self.leaf(0, has_cells)

    def leaf(self, free, has_cells):
        choose = self.random
        if free and choose.random() < 0.6:
            return ("name", (), (choose.randrange(free),))
        if has_cells and choose.random() < 0.4:
            return ("ref", (), (choose.randrange(1, has_cells + 1),))
        literals = [("int", choose.choice((0, 1, 2, -3, 10 ** 12))), ("quote", choose.choice(("red", "a"))),
                    ("flag", choose.random() < 0.5)]
        literals += [("global", name) for name in self.functions]
        head, item = choose.choice(literals)
        return (head, (), (item,))
