"""[6], [7]: the form of a tree, its paths and its ink."""

import types
import unittest

from saidanew.trees import bared, count, inked, is_tree, subtree, with_subtree

INK = (("or", 1, ()),)
INK_TWO = (("for", 0, ()), ("or", 1, (1, 0)))
ONE = ("int", (), (1,))
NAME = ("name", (), (0,))

# One right tree of each head, with the kinds of items that the head has.
RIGHT = {
    "int": ("int", (), (12,)),
    "quote": ("quote", (), ("red",)),
    "flag": ("flag", (), (True,)),
    "global": ("global", (), ("f",)),
    "made": ("made", (), (ONE, ("quote", (), ("a",)))),
    "ref": ("ref", (), (1,)),
    "name": ("name", INK, (0,)),
    "fun": ("fun", INK, (2, NAME)),
    "call": ("call", INK, (NAME, ONE)),
    "let": ("let", INK, (ONE, NAME)),
    "if": ("if", INK, (ONE, NAME, ONE)),
    "try": ("try", INK, (ONE, NAME)),
    "list": ("list", INK, (ONE, ONE, NAME)),
    "use": ("use", INK, ("or", 3, ONE, NAME)),
}
ONES = ("do", "not", "first", "rest", "none", "cell", "get", "raise", "say")
TWOS = ("seq", "plus", "minus", "times", "less", "same", "put", "set")
for one in ONES:
    RIGHT[one] = (one, INK, (ONE,))
for two in TWOS:
    RIGHT[two] = (two, INK, (ONE, NAME))
FIXED = {**{head: 1 for head in ONES}, **{head: 2 for head in TWOS}, "let": 2, "try": 2, "if": 3}
LITERALS = ("int", "quote", "flag", "global", "made", "ref")

# A tree with all kinds of items, and ink here and there.
BIG = (
    "let", INK, (
        ("made", (), (
            ("fun", INK_TWO, (1, ("name", INK, (0,)))),
            ("use", INK, ("or", 2, ("plus", INK, (ONE, ONE)))),
            ("made", (), (("fun", (), (0, ("do", INK, (ONE,)))),)),
        )),
        ("call", (), (
            ("fun", INK, (2, ("name", (), (2,)))),
            ("use", (), ("for", 3, ("name", INK_TWO, (0,)), ("list", INK, ()))),
            ("name", INK_TWO, (0,)),
        )),
    ),
)
BIG_INKED = [
    ((), INK),
    ((0, 0), INK_TWO),
    ((0, 0, 1), INK),
    ((0, 1), INK),
    ((0, 1, 2), INK),
    ((0, 2, 0, 1), INK),
    ((1, 0), INK),
    ((1, 1, 2), INK_TWO),
    ((1, 1, 3), INK),
    ((1, 2), INK_TWO),
]


def paths_of(tree, path=()):
    found = [path]
    for at, item in enumerate(tree[2]):
        if isinstance(item, tuple):
            found.extend(paths_of(item, path + (at,)))
    return found


def nested(tree, deep):
    for _ in range(deep):
        tree = ("do", INK, (tree,))
    return tree


class IsTree(unittest.TestCase):

    def right(self, thing):
        with self.subTest(thing=thing):
            self.assertIs(is_tree(thing), True)

    def wrong(self, thing):
        with self.subTest(thing=thing):
            self.assertIs(is_tree(thing), False)
        # What is wrong is wrong inside of other trees, too.
        with self.subTest(inside=thing):
            self.assertIs(is_tree(("list", (), (ONE, thing))), False)
            self.assertIs(is_tree(("fun", (), (1, thing))), False)
            self.assertIs(is_tree(("use", (), ("or", 2, thing))), False)
            self.assertIs(is_tree(("made", (), (("fun", (), (1, thing)),))), False)

    def test_one_of_each_head(self):
        self.assertEqual(len(RIGHT), 31)
        for tree in RIGHT.values():
            self.right(tree)
        self.right(BIG)

    def test_things_that_are_no_nodes(self):
        for thing in (None, True, False, 0, 1, "", "int", "true", (), [], ("int",), ("int", ()), (ONE,),
                      ("int", (), (1,), ()), ["int", (), (1,)], ("int", (), [1]), ("int", [], (1,)),
                      ("int", (), 1), ("int", (), None), ("int", None, (1,)), ("do", (), ONE), ((), (), ()),
                      ([], (), ()), (None, (), ()), (["int"], (), (1,)), ("do", (), [ONE]), ("list", [], ())):
            self.wrong(thing)

    def test_wrong_heads(self):
        for head in ("", "Int", "integer", "or", "true", "false", "word", "rule", "run", "where", "string", 1, True, None,
                     ("int",), ["int"]):
            self.wrong((head, (), (1,)))
            self.wrong((head, (), ("red",)))
            self.wrong((head, (), (ONE,)))
            self.wrong((head, (), ()))

    def test_numbers_of_items(self):
        for head, size in FIXED.items():
            for many in range(5):
                tree = (head, (), (ONE,) * many)
                if many == size:
                    self.right(tree)
                else:
                    self.wrong(tree)
        for head in ("int", "quote", "flag", "global", "ref", "name"):
            item = RIGHT[head][2]
            self.wrong((head, (), ()))
            self.wrong((head, (), item * 2))
        for many in range(5):
            self.right(("list", (), (ONE,) * many))
            self.right(("made", (), (ONE,) * many))
        self.wrong(("call", (), ()))
        self.right(("call", (), (ONE,)))
        self.right(("call", (), (ONE,) * 8))

    def test_items_that_are_no_trees(self):
        for head, size in FIXED.items():
            for at in range(size):
                for thing in (None, 1, "a", True, (), [ONE], list(ONE)):
                    items = [ONE] * size
                    items[at] = thing
                    self.wrong((head, (), tuple(items)))
        for head in ("call", "list", "made"):
            for thing in (None, 1, "a", True, (), [], [ONE], list(ONE)):
                self.wrong((head, (), (ONE, thing)))
                self.wrong((head, (), (thing,)))

    def test_literals(self):
        for k in (0, 1, -1, 10 ** 300, -10 ** 12):
            self.right(("int", (), (k,)))
        for k in (True, False, None, "1", (1,), [1], ONE):
            self.wrong(("int", (), (k,)))
        for b in (True, False):
            self.right(("flag", (), (b,)))
        for b in (0, 1, None, "true", (True,)):
            self.wrong(("flag", (), (b,)))
        for n in (1, 2, 900):
            self.right(("ref", (), (n,)))
        for n in (0, -1, True, None, "1", ONE):
            self.wrong(("ref", (), (n,)))
        for head in ("quote", "global"):
            for name in ("a", "red", "abcdefgh"):
                self.right((head, (), (name,)))
            for name in ("", "Red", "abcdefghi", "a1", "let", "true", "use", "made", "where", "run", None, 1, ("a",), ["a"]):
                self.wrong((head, (), (name,)))

    def test_literals_have_no_ink(self):
        for head in LITERALS:
            self.right((head, (), RIGHT[head][2]))
            self.wrong((head, INK, RIGHT[head][2]))
        self.right(("fun", INK, (0, ONE)))

    def test_names(self):
        for i in (0, 1, 45):
            self.right(("name", (), (i,)))
        for i in (-1, True, False, None, "0", "a", (0,)):
            self.wrong(("name", (), (i,)))

    def test_made(self):
        for head in ("int", "quote", "flag", "global", "made", "ref", "fun", "use"):
            self.right(("made", (), (RIGHT[head],)))
            self.right(("made", (), (ONE, ("made", (), (RIGHT[head], ONE)))))
        for head in RIGHT:
            if head not in LITERALS + ("fun", "use"):
                self.wrong(("made", (), (RIGHT[head],)))
                self.wrong(("made", (), (ONE, ("made", (), (ONE, RIGHT[head])))))
        self.right(("made", (), (("fun", INK, (0, ("name", (), (3,)))),)))
        self.wrong(("made", (), (("fun", (), (5, ONE)),)))
        self.wrong(("made", (), (("int", (), (True,)),)))
        self.wrong(("made", (), ((["int"], (), (1,)),)))

    def test_functions(self):
        for m in range(5):
            self.right(("fun", (), (m, NAME)))
        for m in (-1, 5, True, False, None, "1", ONE):
            self.wrong(("fun", (), (m, NAME)))
        for items in ((), (1,), (NAME,), (NAME, 1), (1, NAME, NAME), (1, 1), (1, None)):
            self.wrong(("fun", (), items))

    def test_uses(self):
        self.right(("use", (), ("or", 0)))
        self.right(("use", INK_TWO, ("or", 3)))
        self.right(("use", (), ("or", 3, ONE, ONE, ONE)))
        self.right(("use", (), ("unknown", 50, ONE)))
        self.wrong(("use", (), ("or", 0, ONE)))
        self.wrong(("use", (), ("or", 3, ONE, ONE, ONE, ONE)))
        for items in ((), ("or",), (1, "or"), ("or", ONE), ("or", -1), ("or", True), ("or", True, ONE), ("or", None),
                      ("or", "1"), ("Or", 1), ("let", 1), ("rule", 1), (None, 1), ("or", 1, 1), ("or", 2, ONE, None),
                      (("or",), 1), (["or"], 1)):
            self.wrong(("use", (), items))

    def test_inks(self):
        for ink in ((), INK, INK_TWO, INK * 12, (("a", 0, (0, 5, 900)),)):
            self.right(("do", ink, (ONE,)))
        for mark in ((), ("or",), ("or", 1), ("or", 1, (), ()), ["or", 1, ()], "or", None, 1, True,
                     ("Or", 1, ()), ("let", 1, ()), ("true", 1, ()), ("", 1, ()), (None, 1, ()), (1, 1, ()),
                     ("or", -1, ()), ("or", True, ()), ("or", False, ()), ("or", None, ()), ("or", "1", ()),
                     ("or", 1, None), ("or", 1, 0), ("or", 1, []), ("or", 1, [0]), ("or", 1, (-1,)),
                     ("or", 1, (True,)), ("or", 1, (0, None)), ("or", 1, ("0",)), ("or", 1, ((),)), (["or"], 1, ())):
            self.wrong(("do", (mark,), (ONE,)))
            self.wrong(("do", INK + (mark,), (ONE,)))
            self.wrong(("name", (mark,), (0,)))
        for ink in (None, "", "or", 0, True, [], list(INK), ("or", 1, ())):
            self.wrong(("do", ink, (ONE,)))

    def test_words_functions_and_names_are_not_looked_at(self):
        self.right(("list", (), (("name", (), (44,)), ("global", (), ("nowhere",)), ("use", (), ("nothing", 7)))))

    def test_deep_and_long(self):
        self.right(nested(ONE, 30))
        self.right(nested(NAME, 110))
        self.wrong(nested(("int", (), (True,)), 28))
        self.right(("list", INK * 12, (ONE,) * 899))
        thing = ()
        for _ in range(59):
            thing = (thing,)
        self.wrong(thing)
        thing = []
        for _ in range(59):
            thing = [thing]
        self.wrong(thing)

    def test_by_name(self):
        self.assertIs(is_tree(thing=ONE), True)


class Paths(unittest.TestCase):

    def test_subtree_at_the_root_and_inside(self):
        self.assertEqual(subtree(BIG, ()), BIG)
        self.assertEqual(subtree(BIG, (0, 0, 1)), ("name", INK, (0,)))
        self.assertEqual(subtree(BIG, (1, 1, 3)), ("list", INK, ()))
        self.assertEqual(subtree(BIG, (0, 1, 2, 1)), ONE)
        self.assertEqual(subtree(tree=BIG, path=(1, 2)), ("name", INK_TWO, (0,)))

    def test_with_subtree_at_every_path(self):
        before = repr(BIG)
        other = ("quote", (), ("other",))
        paths = paths_of(BIG)
        self.assertEqual(len(paths), count(BIG))
        for path in paths:
            with self.subTest(path=path):
                changed = with_subtree(BIG, path, other)
                self.assertEqual(subtree(changed, path), other)
                self.assertEqual(with_subtree(changed, path, subtree(BIG, path)), BIG)
                self.assertEqual(with_subtree(BIG, path, subtree(BIG, path)), BIG)
                for apart in paths:
                    shared = min(len(apart), len(path))
                    if apart[:shared] != path[:shared]:
                        self.assertEqual(subtree(changed, apart), subtree(BIG, apart))
                    elif len(apart) < len(path):
                        self.assertEqual(subtree(changed, apart)[:2], subtree(BIG, apart)[:2])
        self.assertEqual(repr(BIG), before)

    def test_with_subtree_keeps_the_items_that_are_no_trees(self):
        self.assertEqual(with_subtree(RIGHT["fun"], (1,), ONE), ("fun", INK, (2, ONE)))
        self.assertEqual(with_subtree(RIGHT["use"], (3,), ONE), ("use", INK, ("or", 3, ONE, ONE)))
        self.assertEqual(with_subtree(RIGHT["use"], (), ONE), ONE)
        self.assertEqual(with_subtree(tree=ONE, path=(), other=NAME), NAME)


class Counts(unittest.TestCase):

    def test_count(self):
        self.assertEqual(count(ONE), 1)
        self.assertEqual(count(("made", (), ())), 1)
        self.assertEqual(count(RIGHT["made"]), 3)
        self.assertEqual(count(RIGHT["fun"]), 2)
        self.assertEqual(count(RIGHT["use"]), 3)
        self.assertEqual(count(BIG), len(paths_of(BIG)))
        self.assertEqual(count(BIG), 19)
        self.assertEqual(count(tree=nested(ONE, 110)), 111)
        self.assertEqual(count(("list", (), (ONE,) * 2600)), 2601)


class Inks(unittest.TestCase):

    def test_it_is_a_generator(self):
        self.assertIsInstance(inked(BIG), types.GeneratorType)

    def test_in_preorder_with_the_items_of_made(self):
        self.assertEqual(list(inked(BIG)), BIG_INKED)
        self.assertEqual(list(inked(tree=BIG)), BIG_INKED)

    def test_no_ink(self):
        self.assertEqual(list(inked(ONE)), [])
        self.assertEqual(list(inked(("list", (), (ONE, NAME)))), [])

    def test_items_by_index_and_not_by_the_text_of_paths(self):
        tree = ("list", (), tuple([("name", (("a", k, ()),), (k,)) for k in range(12)]))
        self.assertEqual(list(inked(tree)), [((k,), (("a", k, ()),)) for k in range(12)])

    def test_left_early_and_begun_again(self):
        walk = inked(BIG)
        self.assertEqual([next(walk), next(walk)], BIG_INKED[:2])
        walk.close()
        self.assertEqual(list(walk), [])
        for pair in inked(BIG):
            self.assertEqual(pair, BIG_INKED[0])
            break
        self.assertEqual(list(inked(BIG)), BIG_INKED)

    def test_two_at_once(self):
        first, second = inked(BIG), inked(BIG)
        for pair in BIG_INKED:
            self.assertEqual(next(first), pair)
            self.assertEqual(next(second), pair)

    def test_bared(self):
        bare = bared(BIG)
        self.assertEqual(list(inked(bare)), [])
        self.assertEqual(paths_of(bare), paths_of(BIG))
        for path in paths_of(BIG):
            here, there = subtree(BIG, path), subtree(bare, path)
            self.assertEqual(here[0], there[0])
            self.assertEqual([i for i in here[2] if not isinstance(i, tuple)],
                             [i for i in there[2] if not isinstance(i, tuple)])
        self.assertEqual(bared(bare), bare)
        self.assertEqual(bared(tree=RIGHT["use"]), ("use", (), ("or", 3, ONE, NAME)))
        self.assertEqual(bared(RIGHT["fun"]), ("fun", (), (2, NAME)))
        self.assertEqual(list(inked(bared(nested(ONE, 150)))), [])


if __name__ == "__main__":
    unittest.main()
