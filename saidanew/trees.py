"""Trees: their form, the trees inside of them, and their ink."""

from saidanew.names import is_name

LITERALS = ("int", "quote", "flag", "global", "made", "ref")
# What may stand in a `made`: values, and uses that perhaps read as one.
MADE_OF = ("int", "quote", "flag", "global", "made", "ref", "fun", "use")
# The heads whose only item is no tree.
SINGLE = ("int", "quote", "flag", "global", "ref", "name")
# The number of items, where all of them are trees.
SIZES = {
    "do": 1, "not": 1, "first": 1, "rest": 1, "none": 1, "cell": 1, "get": 1, "raise": 1, "say": 1,
    "let": 2, "seq": 2, "plus": 2, "minus": 2, "times": 2, "less": 2, "same": 2, "put": 2, "set": 2,
    "try": 2, "if": 3,
}
# The least number of items, where all of them are trees and there may be more.
LEAST = {"list": 0, "call": 1}
# The index of the first item that is a tree, where it is not 0 and there are such items.
FIRST_TREE = {"fun": 1, "use": 2}
MOST_PARAMETERS = 4


def is_tree(thing):
    """Whether any thing has the form of a tree."""
    waiting = [thing]
    while waiting:
        node = waiting.pop()
        if not _is_node(node):
            return False
        waiting.extend(trees_of(node))
    return True


def subtree(tree, path):
    """The tree at a path."""
    for at in path:
        tree = tree[2][at]
    return tree


def with_subtree(tree, path, other):
    """The tree with another one at a path."""
    above = []
    for at in path:
        above.append((tree, at))
        tree = tree[2][at]
    return put_below(above, other)


def put_below(above, tree):
    """The whole tree below whose nodes, each with the index of an item, this tree is put."""
    for (head, ink, items), at in reversed(above):
        tree = (head, ink, items[:at] + (tree,) + items[at + 1:])
    return tree


def count(tree):
    """The number of nodes of a tree, items of `made` included."""
    many = 0
    waiting = [tree]
    while waiting:
        node = waiting.pop()
        many += 1
        waiting.extend([item for item in node[2] if isinstance(item, tuple)])
    return many


def inked(tree):
    """The pairs of path and ink of all nodes that have ink, in preorder."""
    waiting = [((), tree)]
    while waiting:
        path, node = waiting.pop()
        if node[1]:
            yield (path, node[1])
        items = node[2]
        # The last one put there is the next one taken, so the first item goes in last.
        for at in reversed(range(len(items))):
            if isinstance(items[at], tuple):
                waiting.append((path + (at,), items[at]))


def bared(tree):
    """The tree with all inks empty."""
    return changed_throughout(tree, lambda node: (node[0], (), node[2]))


def changed_throughout(tree, change):
    """The tree with each node changed by a function that leaves the node's trees as they are."""
    done = []
    waiting = [(tree, False)]
    while waiting:
        node, is_open = waiting.pop()
        if is_open:
            done.append(gathered(node, done))
        else:
            waiting.append((change(node), True))
            waiting.extend([(inner, False) for inner in trees_of(node)[::-1]])
    return done[0]


def trees_of(node):
    """The items of a node that are trees; they are its last ones."""
    head, _, items = node
    if head in SINGLE:
        return ()
    first = FIRST_TREE.get(head, 0)
    return items[first:] if first else items


def gathered(node, done):
    """The node with its trees replaced by as many trees at the end of a list, which are taken off there."""
    cut = len(done) - len(trees_of(node))
    trees = done[cut:]
    del done[cut:]
    return with_trees(node, trees)


def with_trees(node, trees):
    """The node with its trees replaced by as many others."""
    head, ink, items = node
    return (head, ink, items[:len(items) - len(trees)] + tuple(trees))


def _is_node(thing):
    """Whether a thing is a node as far as one sees without going into its trees."""
    if not isinstance(thing, tuple) or len(thing) != 3:
        return False
    head, ink, items = thing
    if not isinstance(head, str) or not isinstance(items, tuple) or not _is_ink(ink):
        return False
    if head in LITERALS and ink != ():
        return False
    return _items_fit(head, items)


def _items_fit(head, items):
    """Whether a node with this head may have these items, its trees not looked into."""
    if head in SIZES:
        return len(items) == SIZES[head]
    if head == "made":
        return all([_may_be_made_of(item) for item in items])
    if head in LEAST:
        return len(items) >= LEAST[head]
    if head == "fun":
        return len(items) == 2 and is_index(items[0]) and items[0] <= MOST_PARAMETERS
    if head == "use":
        return _is_use(items)
    return head in SINGLE and len(items) == 1 and _single_fits(head, items[0])


def _single_fits(head, item):
    """Whether a node with a single item that is no tree may have this one."""
    if head == "flag":
        return isinstance(item, bool)
    if head == "int":
        return _is_integer(item)
    if head == "ref":
        return _is_integer(item) and item >= 1
    if head == "name":
        return is_index(item)
    return is_name(item)


def _is_use(items):
    """Whether a use may have these items: its expressions are not more than its arguments."""
    if len(items) < 2 or not is_name(items[0]) or not is_index(items[1]):
        return False
    return len(items) - 2 <= items[1]


def _may_be_made_of(thing):
    """Whether a thing has the head of what may stand in a `made`."""
    return isinstance(thing, tuple) and len(thing) == 3 and thing[0] in MADE_OF


def _is_ink(thing):
    """Whether a thing is a tuple of marks."""
    return isinstance(thing, tuple) and all([_is_mark(mark) for mark in thing])


def _is_mark(thing):
    """Whether a thing is a mark: a word, the index of a rule, a path."""
    if not isinstance(thing, tuple) or len(thing) != 3:
        return False
    word, rule, path = thing
    return is_name(word) and is_index(rule) and is_path(path)


def is_path(thing):
    """Whether a thing is a tuple of indexes."""
    return isinstance(thing, tuple) and all([is_index(at) for at in thing])


def _is_integer(thing):
    """Whether a thing is an integer; True and False are none."""
    return isinstance(thing, int) and not isinstance(thing, bool)


def is_index(thing):
    """Whether a thing is an integer from 0 on."""
    return _is_integer(thing) and thing >= 0
