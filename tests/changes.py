"""Random changes of core trees, for the tests."""

from saidanew.trees import is_tree, subtree, with_subtree
from tests.samples import ONE, TWO

LITERALS = ("int", "quote", "flag", "global", "made", "ref")


def paths(tree, path=()):
    yield path
    for at, item in enumerate(tree[2]):
        if isinstance(item, tuple):
            yield from paths(item, path + (at,))


def over(tree, at):
    """How many binders a core node puts around one of its items."""
    if tree[0] == "fun":
        return tree[2][0]
    return 1 if tree[0] in ("let", "try") and at == 1 else 0


def around(tree, path):
    """How many binders are around the node at a path."""
    many = 0
    for at in path:
        many += over(tree, at)
        tree = tree[2][at]
    return many


def is_closed_below(tree, free):
    if tree[0] == "name":
        return tree[2][0] < free
    return all(is_closed_below(item, free + over(tree, at)) for at, item in enumerate(tree[2]) if isinstance(item, tuple))


def changed(tree, maker):
    """A core tree with one to three changes; it stays closed."""
    for _ in range(maker.random.choice((1, 1, 1, 2, 3))):
        path = maker.random.choice(list(paths(tree)))
        node = changed_node(tree, path, maker)
        other = with_subtree(tree, path, node)
        if is_tree(other) and is_closed_below(other, 0):
            tree = other
    return tree


def changed_node(tree, path, maker):
    choose = maker.random
    head, ink, items = node = subtree(tree, path)
    free = around(tree, path)
    kind = choose.randrange(6)
    if kind == 0 and head not in LITERALS:
        return (head, subtree(tree, choose.choice(list(paths(tree))))[1], items)
    if kind == 1 and ink:
        return (head, changed_ink(ink, maker), items)
    if kind == 2:
        return maker.tree(2, free, False)
    if kind == 3 and head in ("list", "call"):
        at = choose.randrange(len(items) + 1)
        if at < len(items) > 1 and choose.random() < 0.5:
            return (head, ink, items[:at] + items[at + 1:])
        return (head, ink, items[:at] + (("int", (), (7,)),) + items[at:])
    if kind == 4:
        for heads in (ONE, TWO):
            if head in heads:
                return (choose.choice(heads), ink, items)
        return ("name", ink, (choose.randrange(free),)) if head == "name" else node
    return subtree(tree, choose.choice(list(paths(tree))))


def changed_ink(ink, maker):
    choose = maker.random
    at = choose.randrange(len(ink))
    word, rule, path = ink[at]
    marks = [(choose.choice(maker.book.words + ("zz",)), rule, path), (word, choose.randrange(4), path),
             (word, rule, ()), (word, rule, path[:-1]), (word, rule, path + (0,))]
    if choose.random() < 0.2:
        return ink[:at] + ink[at + 1:]
    return ink[:at] + (choose.choice(marks),) + ink[at + 1:]
