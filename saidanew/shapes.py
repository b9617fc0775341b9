"""Shapes: trees apart from which binders around them their names refer to.

Each shape has a number, so that trees are compared, and are kept in dicts, by
their numbers. A tree is its shape and its references: for each binder around it
to which it refers, in the order of the first names that do so, the number by
which a name at its root refers to this binder.
"""

from saidanew.binders import binders_over_core
from saidanew.trees import gathered, trees_of


class Shape:
    """The node at the root of some trees, and the parts that are its trees.

    A part is a triple: the number of a shape; its links, which tell for each of
    its references that it is to the node's own binder k, by -1 - k, the
    innermost one being the first, or else which one of the node's references it
    is; and how many binders the node puts around it. The node stands here with
    its parts instead of its trees, and with no index if it is a name. `many` is
    how many references there are.
    """

    def __init__(self, node, many):
        self.node = node
        self.parts = trees_of(node)
        self.many = many


class Shapes:
    """The shapes of some bare core trees and of all trees in them; each one comes behind those inside of it."""

    def __init__(self):
        self.rows = []
        self.numbers = {}

    def shape_of(self, tree):
        """The number of a tree's shape, and the tree's references."""
        done = []
        waiting = [(tree, False)]
        while waiting:
            node, is_open = waiting.pop()
            trees = trees_of(node)
            if trees and not is_open:
                waiting.append((node, True))
                waiting.extend([(inner, False) for inner in trees[::-1]])
            else:
                cut = len(done) - len(trees)
                inner = done[cut:]
                del done[cut:]
                done.append(self._shape_of_node(node, inner))
        return done[0]

    def _shape_of_node(self, node, inner):
        """The number and the references of a node, by those of its trees."""
        head, _, items = node
        references = []
        parts = []
        for (number, wanted), over in zip(inner, binders_over_core(node)):
            links = []
            for index in wanted:
                if index >= over and index - over not in references:
                    references.append(index - over)
                links.append(references.index(index - over) if index >= over else -1 - index)
            parts.append((number, tuple(links), over))
        plain = items[:len(items) - len(parts)]
        if head == "name":
            references, plain = [items[0]], ()
        key = (head, plain, tuple(parts))
        if key not in self.numbers:
            self.numbers[key] = len(self.rows)
            self.rows.append(Shape((head, (), (*plain, *parts)), len(references)))
        return self.numbers[key], tuple(references)

    def tree_of(self, number, references, uses):
        """The tree of a shape with these references.

        Shapes whose numbers are in the dict become uses, which stand there as
        nodes of shapes do.
        """
        done = []
        waiting = [(number, references)]
        while waiting:
            number, references = waiting.pop()
            if references is None:
                done.append(gathered(number, done))
                continue
            node = uses.get(number, self.rows[number].node)
            if node[0] == "name":
                done.append(("name", (), references))
                continue
            waiting.append((node, None))
            for inner, links, over in trees_of(node)[::-1]:
                waiting.append((inner, tuple([-1 - link if link < 0 else references[link] + over for link in links])))
        return done[0]
